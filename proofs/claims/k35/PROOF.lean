import PyProof.Rows.All
import Wide.All
import OpenK.KLine
import OpenK.KOwn
import KE.RegKIsAll
import KE.KItem
import KE.LcSums
import KE.KPairTest
import Wide.FinOn
import Lean
import PyProof.EqAt
import PyProof.EqKinds
import PyProof.TupleCall
import PyProof.Rows.Catch
import PyProof.Rows.TupIter
import PyProof.TupleIter
import PyProof.Seq
import PyProof.ExcInit
import PyProof.ExcClass2
import KE.KIntText
import PyProof.StrOps2
import PyProof.ConsumeWalk
import PyProof.Rows.RuleM_int
import PyProof.ZipIter
import PyProof.EnumMake
import PyProof.Rows.TupAssign
import PySem.Challenge.RW_tenreckon_k35_whole_quotients_exactly
set_option Elab.async false
set_option linter.all false
set_option maxRecDepth 100000
namespace PySem.W.Fast
theorem tw2717105886377250409:True:=trivial
theorem tw14910613300190220630:True:=trivial
theorem tw3253909111948686682:True:=trivial
theorem tw15311470361507034358:True:=trivial
theorem tw861502493610598483:True:=trivial
theorem tw4744403521286499667:True:=trivial
theorem tw14522560712991715951:True:=trivial
theorem tw7926312261625145857:True:=trivial
theorem tw5119592772111757363:True:=trivial
theorem tw1975494729534357219:True:=trivial
theorem tw8574918690776348908:True:=trivial
theorem tw9553631526602823048:True:=trivial
theorem tw4534658132904025054:True:=trivial
theorem tw11163739012320327313:True:=trivial
theorem tw7774113678449685934:True:=trivial
theorem tw12776183809647256387:True:=trivial
theorem tw7708883402060656183:True:=trivial
theorem tw16937879542928416138:True:=trivial
theorem tw16430232756884227355:True:=trivial
theorem tw7175993877961864270:True:=trivial
theorem tw11606288678410610225:True:=trivial
theorem tw7893645736953833228:True:=trivial
theorem tw2463159546536120769:True:=trivial
theorem tw10058038804481632426:True:=trivial
theorem tw8176730645128964420:True:=trivial
theorem tw2127061852082412059:True:=trivial
theorem tw9017748033538871416:True:=trivial
theorem tw13606521132961772581:True:=trivial
theorem tw424408320835691240:True:=trivial
theorem tw771822569319705768:True:=trivial
theorem tw5930135305076673311:True:=trivial
theorem tw16060203290454839817:True:=trivial
theorem tw14257035121206530791:True:=trivial
theorem tw5093527231409595335:True:=trivial
theorem tw17315057650846758953:True:=trivial
theorem tw7053471978191194526:True:=trivial
theorem tw908480701973217441:True:=trivial
theorem tw17163426234232328066:True:=trivial
theorem tw2386784164831690217:True:=trivial
theorem tw11205608169257636508:True:=trivial
theorem tw2869065659524454656:True:=trivial
theorem tw12669407529647801677:True:=trivial
theorem tw16626521671886133394:True:=trivial
theorem tw542563422162235373:True:=trivial
theorem tw17260811203177919210:True:=trivial
theorem tw3365755272349913518:True:=trivial
theorem tw9331231397406362311:True:=trivial
theorem tw18150448366888777194:True:=trivial
theorem tw11512705759438076691:True:=trivial
theorem tw12176265147828701554:True:=trivial
theorem tw13468011388731342839:True:=trivial
theorem tw11215392098479208961:True:=trivial
theorem tw15932183184989994656:True:=trivial
theorem tw18328257000508772394:True:=trivial
theorem tw10834659324959297461:True:=trivial
theorem tw5804074837815428165:True:=trivial
theorem tw8318101203651539667:True:=trivial
theorem tw8222940686941784037:True:=trivial
theorem tw18277974793145541040:True:=trivial
theorem tw1467881925912835984:True:=trivial
theorem tw5467331546851215429:True:=trivial
theorem tw7873748247521183178:True:=trivial
theorem tw17170472223608059050:True:=trivial
theorem tw15541240446876304647:True:=trivial
theorem tw4524658085876675188:True:=trivial
theorem tw16151628708876355199:True:=trivial
theorem tw15792790952358468732:True:=trivial
theorem tw14382375192886884664:True:=trivial
theorem tw4483904966330829159:True:=trivial
theorem tw12826555694032677247:True:=trivial
theorem tw6968137755033780318:True:=trivial
theorem tw7828442866392281868:True:=trivial
theorem tw3997487885647526937:True:=trivial
theorem tw14383122354028845282:True:=trivial
theorem tw11513857634932158529:True:=trivial
theorem tw730961619353400375:True:=trivial
theorem tw296083027919845158:True:=trivial
theorem tw12325864989022198202:True:=trivial
theorem tw10146569101766770184:True:=trivial
theorem tw15743010393045028110:True:=trivial
theorem tw16998588944726240723:True:=trivial
theorem tw9496581404884138560:True:=trivial
theorem tw12524954882073270795:True:=trivial
theorem tw8997383693586321770:True:=trivial
theorem tw8915285831880473931:True:=trivial
theorem tw1950803216711332702:True:=trivial
theorem tw12058884036946728934:True:=trivial
theorem tw896878414759379649:True:=trivial
theorem tw1401067106901849026:True:=trivial
theorem tw10388488172074580225:True:=trivial
theorem tw8191318114535113306:True:=trivial
theorem tw17292613610259460706:True:=trivial
theorem tw12315944733273679750:True:=trivial
theorem tw1474264761786122189:True:=trivial
theorem tw2080317491765294665:True:=trivial
theorem tw6597789921013551971:True:=trivial
theorem tw2333531293284704758:True:=trivial
theorem tw12936088452001202715:True:=trivial
theorem tw4340673293219707767:True:=trivial
theorem tw12132732476715806282:True:=trivial
theorem tw7212858340449540239:True:=trivial
theorem tw16902440903046159558:True:=trivial
theorem tw4773484457636388862:True:=trivial
theorem tw8733291241859026926:True:=trivial
theorem tw17472340661787783526:True:=trivial
theorem tw5086489192560080304:True:=trivial
theorem tw14260533273033392520:True:=trivial
theorem tw9536688357841153863:True:=trivial
theorem tw13465540834166320765:True:=trivial
theorem tw9630203353718772412:True:=trivial
theorem tw17871049288011112270:True:=trivial
theorem tw15418674001244492974:True:=trivial
theorem tw16140922888777852060:True:=trivial
theorem tw7557421358154311045:True:=trivial
theorem tw15577281813014381367:True:=trivial
theorem tw16955839230299176341:True:=trivial
theorem tw3300454383303005205:True:=trivial
theorem tw10778862844796284456:True:=trivial
theorem tw6172094611929405055:True:=trivial
theorem tw5341297951324810720:True:=trivial
theorem tw5263133172445716209:True:=trivial
theorem tw16728255500844073214:True:=trivial
theorem tw5649666937502919571:True:=trivial
theorem tw14294133066467233204:True:=trivial
theorem tw7943549864190904611:True:=trivial
theorem tw17512793052788017329:True:=trivial
theorem tw5909976876416983842:True:=trivial
theorem tw5953359166732830163:True:=trivial
theorem tw10310341975313369176:True:=trivial
theorem tw13812277999558781770:True:=trivial
theorem tw8916546322912404101:True:=trivial
theorem tw15504105790966721872:True:=trivial
theorem tw8006371003960147343:True:=trivial
theorem tw9461912720999461741:True:=trivial
theorem tw6557801498797044033:True:=trivial
theorem tw2228412568605170491:True:=trivial
theorem tw8285278889055680438:True:=trivial
theorem tw15402603294489630176:True:=trivial
theorem tw11566098044289413073:True:=trivial
theorem tw7001957589650049515:True:=trivial
theorem tw10295913840692754127:True:=trivial
theorem tw6128145076113358165:True:=trivial
theorem tw651700358538967526:True:=trivial
theorem tw14847308668706973960:True:=trivial
theorem tw13257283266767686631:True:=trivial
theorem tw14644112915844679512:True:=trivial
theorem tw7291104481378594968:True:=trivial
theorem tw15114039742791322609:True:=trivial
theorem tw13390110025980002063:True:=trivial
theorem tw5805800948307579973:True:=trivial
theorem tw14903569129155370506:True:=trivial
theorem tw9931937742245647033:True:=trivial
theorem tw10341888390210383824:True:=trivial
theorem tw2741014181512449073:True:=trivial
theorem tw306047672372848657:True:=trivial
theorem tw17626739374222857552:True:=trivial
theorem tw977512076041815475:True:=trivial
theorem tw5622701340561072331:True:=trivial
theorem tw14207390962412962894:True:=trivial
theorem tw3831019782443316194:True:=trivial
theorem tw10085292869130188298:True:=trivial
theorem tw17613222154834848340:True:=trivial
theorem tw6259241058660970061:True:=trivial
theorem tw11421057715548341654:True:=trivial
theorem tw2455152089536381482:True:=trivial
theorem tw15752536640612570366:True:=trivial
theorem tw10395332584310045583:True:=trivial
theorem tw10519837036962490867:True:=trivial
theorem tw11907897558876765624:True:=trivial
theorem tw16217903435359918192:True:=trivial
theorem tw9404705873571188630:True:=trivial
theorem tw6548459193220583526:True:=trivial
theorem tw13885670934486923800:True:=trivial
theorem tw1956260828630720203:True:=trivial
theorem tw13082796549270168242:True:=trivial
theorem tw7485256538410118956:True:=trivial
theorem tw6408400580700104982:True:=trivial
theorem tw12408111787983249662:True:=trivial
theorem tw2931988195819169919:True:=trivial
theorem tw18073898193381586223:True:=trivial
theorem tw13437419889732721216:True:=trivial
theorem tw11853640710764476214:True:=trivial
theorem tw12652081859355081885:True:=trivial
theorem tw6900931685637148767:True:=trivial
theorem tw15539815450414544023:True:=trivial
theorem tw2424988045566436242:True:=trivial
theorem tw3110587219445414310:True:=trivial
theorem tw8422229294311615681:True:=trivial
theorem tw14243238205550065757:True:=trivial
theorem tw12099505692703838030:True:=trivial
theorem tw14170518179582410385:True:=trivial
theorem tw1864683662541468164:True:=trivial
theorem tw5217270863462422736:True:=trivial
theorem tw13444670453868202053:True:=trivial
theorem tw9402243437249704421:True:=trivial
theorem tw7998583776865276027:True:=trivial
theorem tw14746253646979254834:True:=trivial
theorem tw2773992215795510196:True:=trivial
theorem tw28018229315631829:True:=trivial
theorem tw9510108024173832781:True:=trivial
theorem tw2466311954974566718:True:=trivial
theorem tw10842938092177581297:True:=trivial
theorem tw14934011241717051027:True:=trivial
theorem tw4600438763894957952:True:=trivial
theorem tw8565224436197482051:True:=trivial
theorem tw866652123128751154:True:=trivial
theorem tw13303234937177203706:True:=trivial
theorem tw561727478393794602:True:=trivial
theorem tw8757255369765604158:True:=trivial
theorem tw14560624547652848805:True:=trivial
theorem tw7164969610272591079:True:=trivial
theorem tw11766667032028208565:True:=trivial
theorem tw5783627655825047438:True:=trivial
theorem tw4341293187932698999:True:=trivial
theorem tw4026147355466621588:True:=trivial
theorem tw890339118813698166:True:=trivial
theorem tw16412085850373738351:True:=trivial
theorem tw12549542988036985293:True:=trivial
theorem tw772564365185477556:True:=trivial
theorem tw12960429369202013873:True:=trivial
theorem tw15036080040530398195:True:=trivial
theorem tw2135409205425526673:True:=trivial
theorem tw16902085369446701243:True:=trivial
theorem tw8431482922422412695:True:=trivial
theorem tw16122013675670037407:True:=trivial
theorem tw1717767836212652739:True:=trivial
theorem tw14935156969734317764:True:=trivial
theorem tw211337195705725219:True:=trivial
theorem tw9320515035125037321:True:=trivial
theorem tw14202271707224943307:True:=trivial
theorem tw14801369171006070438:True:=trivial
theorem tw12921946191010883867:True:=trivial
theorem tw8392358500681263680:True:=trivial
theorem tw10958628066121416707:True:=trivial
theorem tw9689729476882780088:True:=trivial
theorem tw2846267367221353805:True:=trivial
theorem tw1725486776273817318:True:=trivial
theorem tw10792498714594961201:True:=trivial
theorem tw10879749546641988924:True:=trivial
theorem tw8919978131948313185:True:=trivial
theorem tw17852080271459398996:True:=trivial
theorem tw18031968618487185184:True:=trivial
theorem tw17382457898008728272:True:=trivial
theorem tw8834805137890396735:True:=trivial
theorem tw2261719852989239553:True:=trivial
theorem tw13872120688422071045:True:=trivial
theorem tw6229817132586351632:True:=trivial
theorem tw17351735930882485243:True:=trivial
theorem tw2950685276103557050:True:=trivial
theorem tw14577027041581768965:True:=trivial
theorem tw7509565986652818475:True:=trivial
theorem tw12747814925858328940:True:=trivial
theorem tw12670982853097334264:True:=trivial
theorem tw2789304352393801511:True:=trivial
theorem tw17659185236578331656:True:=trivial
theorem tw10510056951384868246:True:=trivial
theorem tw14594842627406614536:True:=trivial
theorem tw10149570385669482864:True:=trivial
theorem tw206757683497733573:True:=trivial
theorem tw8278001386518606062:True:=trivial
theorem tw5395340147747708899:True:=trivial
theorem tw1915925776726481438:True:=trivial
theorem tw8115137120850386438:True:=trivial
theorem tw13813548295540068894:True:=trivial
theorem tw15675013803050531044:True:=trivial
theorem tw6828597562223498359:True:=trivial
theorem tw8166255043249204926:True:=trivial
theorem tw1719895430356276633:True:=trivial
theorem tw12750670339961964742:True:=trivial
theorem tw8996207646774452837:True:=trivial
theorem tw896239598344801917:True:=trivial
theorem tw8760152093665844161:True:=trivial
theorem tw11402884983299125971:True:=trivial
theorem tw7231845647793152400:True:=trivial
theorem tw1607123104830579860:True:=trivial
theorem tw14441679199631801671:True:=trivial
theorem tw16925712312323332580:True:=trivial
theorem tw6549852094080907030:True:=trivial
theorem tw4323258101793500111:True:=trivial
theorem tw622995879521568732:True:=trivial
theorem tw16101134707931498060:True:=trivial
theorem tw9678289623588505577:True:=trivial
theorem tw17338325484393633139:True:=trivial
theorem tw7086961617601330827:True:=trivial
theorem tw7007286002206832825:True:=trivial
theorem tw10611411778653204182:True:=trivial
theorem tw6798380500665416597:True:=trivial
theorem tw11373181179767321252:True:=trivial
theorem tw14736888041290939073:True:=trivial
theorem tw5459702643516471331:True:=trivial
theorem tw8319933024895762948:True:=trivial
theorem tw9316815775250114193:True:=trivial
theorem tw3641951560692057861:True:=trivial
theorem tw3713540243193553862:True:=trivial
theorem tw11107512795663914464:True:=trivial
theorem tw10095894221667365369:True:=trivial
theorem tw11063759124802658401:True:=trivial
theorem tw7151132215420815488:True:=trivial
theorem tw2132029292895624192:True:=trivial
theorem tw3233987462203235646:True:=trivial
theorem tw4860023922305330110:True:=trivial
theorem tw6084841979344569690:True:=trivial
theorem tw4884199854448574:True:=trivial
theorem tw8212203176049278890:True:=trivial
theorem tw18124618509676941091:True:=trivial
theorem tw12772213712371865176:True:=trivial
theorem tw6170744672141170255:True:=trivial
theorem tw14811890972901180937:True:=trivial
theorem tw4565167180653195659:True:=trivial
theorem tw11180800956215176064:True:=trivial
theorem tw6162269159774324313:True:=trivial
theorem tw13073492499399858440:True:=trivial
theorem tw9530734954097333506:True:=trivial
theorem tw447263597446747957:True:=trivial
theorem tw15173544498738437827:True:=trivial
theorem tw15621415185263527259:True:=trivial
theorem tw18400553757987027518:True:=trivial
theorem tw5832305185047221409:True:=trivial
theorem tw4598271963242535575:True:=trivial
theorem tw8374155422468719031:True:=trivial
theorem tw9215358943560890414:True:=trivial
theorem tw2827255003249426055:True:=trivial
theorem tw10026605065719503897:True:=trivial
theorem tw14329579894275425762:True:=trivial
theorem tw14022695629967993375:True:=trivial
theorem tw12627051441459223148:True:=trivial
theorem tw1378205811072252300:True:=trivial
theorem tw11212356425047092601:True:=trivial
theorem tw17658959251048325594:True:=trivial
theorem tw15166322114958858414:True:=trivial
theorem tw16636501806038632012:True:=trivial
theorem tw14940998509354871970:True:=trivial
theorem tw6325675986683464353:True:=trivial
theorem tw2597523674469684444:True:=trivial
theorem tw16822532161544500889:True:=trivial
theorem tw15685335758407661847:True:=trivial
theorem tw15227483606004533461:True:=trivial
theorem tw17862349074038704544:True:=trivial
theorem tw16802631365582062104:True:=trivial
theorem tw9592521066531166775:True:=trivial
theorem tw1062514266329012355:True:=trivial
theorem tw14387916025512776202:True:=trivial
theorem tw7787813539459594420:True:=trivial
theorem tw13946496683202179788:True:=trivial
theorem tw12917704675397863716:True:=trivial
theorem tw6148498323302512570:True:=trivial
theorem tw3215387988796971590:True:=trivial
theorem tw4684226298888400098:True:=trivial
theorem tw4313010194945074917:True:=trivial
theorem tw14334995849660946996:True:=trivial
theorem tw14564479935002850509:True:=trivial
theorem tw4267111383703672358:True:=trivial
theorem tw15401437161963490237:True:=trivial
theorem tw2314633323536394700:True:=trivial
theorem tw4211115844707057057:True:=trivial
theorem tw8232614014015475128:True:=trivial
theorem tw14398111036562950334:True:=trivial
theorem tw5992840812097835891:True:=trivial
theorem tw5522115075389312692:True:=trivial
theorem tw14074196154385387334:True:=trivial
theorem tw6331431999304432861:True:=trivial
theorem tw2629151800749243262:True:=trivial
theorem tw17013487888433625170:True:=trivial
theorem tw16670775579421159206:True:=trivial
theorem tw14842496431369740429:True:=trivial
theorem tw727553628536289456:True:=trivial
theorem tw5342471268416680606:True:=trivial
theorem tw16531682779099013679:True:=trivial
theorem tw16260866306193365299:True:=trivial
theorem tw10470340158578859262:True:=trivial
theorem tw4512776594637900181:True:=trivial
theorem tw15831126876759372255:True:=trivial
theorem tw10859743581388371069:True:=trivial
theorem tw15969335453137586327:True:=trivial
theorem tw17980500129456985241:True:=trivial
theorem tw1998347030407657756:True:=trivial
theorem tw12431713363859531893:True:=trivial
theorem tw12773500944031208451:True:=trivial
theorem tw6094820017090691545:True:=trivial
theorem tw10312438410070409164:True:=trivial
theorem tw3985964047577975286:True:=trivial
theorem tw4772062507164038959:True:=trivial
theorem tw7837367980739423823:True:=trivial
theorem tw2172276787581067923:True:=trivial
theorem tw6194202620331982285:True:=trivial
theorem tw12681666616541194006:True:=trivial
theorem tw9358312197846296583:True:=trivial
theorem tw15621116118777243554:True:=trivial
theorem tw9201617497623189827:True:=trivial
theorem tw4704452742865826424:True:=trivial
theorem tw2997480634906808460:True:=trivial
theorem tw13366278800048369731:True:=trivial
theorem tw13385558918117058561:True:=trivial
theorem tw6782663255696616371:True:=trivial
theorem tw9615563845995560447:True:=trivial
theorem tw628631919661052299:True:=trivial
theorem tw15142666989864626641:True:=trivial
theorem tw14995258362815363992:True:=trivial
theorem tw1972164579936704799:True:=trivial
theorem tw13069393092227542028:True:=trivial
theorem tw7050804516273991350:True:=trivial
theorem tw12738610918357793766:True:=trivial
theorem tw4993863958327201973:True:=trivial
theorem tw4171853373547519906:True:=trivial
theorem tw17155049476370652306:True:=trivial
theorem tw2392593158011319353:True:=trivial
theorem tw2483321941437592071:True:=trivial
theorem tw13313058339493701161:True:=trivial
theorem tw14859695947638507448:True:=trivial
theorem tw7350462372000428638:True:=trivial
theorem tw8995945545434573385:True:=trivial
theorem tw5662061979359257339:True:=trivial
theorem tw8297923619242306668:True:=trivial
theorem tw13831308528885131752:True:=trivial
theorem tw7372170664606466022:True:=trivial
theorem tw7792700002687035005:True:=trivial
theorem tw5634867526602368427:True:=trivial
theorem tw463774138113389760:True:=trivial
theorem tw10161179621583223854:True:=trivial
theorem tw15495752065017430504:True:=trivial
theorem tw10294118229990073760:True:=trivial
theorem tw2483420100392427323:True:=trivial
theorem tw11317637306720784765:True:=trivial
theorem tw13557862171009465336:True:=trivial
theorem tw16003985067176294414:True:=trivial
theorem tw1495895850433845275:True:=trivial
theorem tw14785633479632635281:True:=trivial
theorem tw8899516883271353254:True:=trivial
theorem tw5289818103960998278:True:=trivial
theorem tw18441984877410159329:True:=trivial
theorem tw14849461344987154502:True:=trivial
theorem tw11564986514327137767:True:=trivial
theorem tw6522051377940421278:True:=trivial
theorem tw16607193741793207195:True:=trivial
theorem tw10741264400317747893:True:=trivial
theorem tw15481805183316651443:True:=trivial
theorem tw2187251505897268136:True:=trivial
theorem tw258204147387103276:True:=trivial
theorem tw1293241653719404408:True:=trivial
theorem tw16765560720781731146:True:=trivial
theorem tw8737599933303070863:True:=trivial
theorem tw11707130962622978684:True:=trivial
theorem tw5239429619861171699:True:=trivial
theorem tw17713387462200973399:True:=trivial
theorem tw17312402878845073609:True:=trivial
theorem tw3099597729799864441:True:=trivial
theorem tw514280064592716601:True:=trivial
theorem tw5711038861398032994:True:=trivial
theorem tw2399617604181995578:True:=trivial
theorem tw4333590680753393835:True:=trivial
theorem tw2759284407945088205:True:=trivial
theorem tw3778530596728393105:True:=trivial
theorem tw12768989823518198380:True:=trivial
theorem tw11662115353561507501:True:=trivial
theorem tw14391293386007564604:True:=trivial
theorem tw12903330217458380548:True:=trivial
theorem tw6216382948874008006:True:=trivial
theorem tw3717076922277056940:True:=trivial
theorem tw4547051000311932777:True:=trivial
theorem tw17678831435119133177:True:=trivial
theorem tw4944497897694004105:True:=trivial
theorem tw3671519592330383864:True:=trivial
theorem tw819570635367399668:True:=trivial
theorem tw2400638427578300857:True:=trivial
theorem tw11120740854625124088:True:=trivial
theorem tw10052031235695348791:True:=trivial
theorem tw11911167908941700269:True:=trivial
theorem tw14081431093454284249:True:=trivial
theorem tw12147665669636231765:True:=trivial
theorem tw2781441929908095834:True:=trivial
theorem tw7046044490832178742:True:=trivial
theorem tw5845002605336314091:True:=trivial
theorem tw15590096980072825465:True:=trivial
theorem tw11692469974320434101:True:=trivial
theorem tw9553971096990549364:True:=trivial
theorem tw11153126096140912846:True:=trivial
theorem tw3297117884562324255:True:=trivial
theorem tw16583815154217966991:True:=trivial
theorem tw8865387616306378214:True:=trivial
theorem tw17614877247268290040:True:=trivial
theorem tw3846801734645722302:True:=trivial
theorem tw1070438729232803039:True:=trivial
theorem tw8151759404152838978:True:=trivial
theorem tw3971525946579005399:True:=trivial
theorem tw640624198105042115:True:=trivial
theorem tw991626836265849350:True:=trivial
theorem tw16212330677787901120:True:=trivial
theorem tw8521684928402303493:True:=trivial
theorem tw15895094517606616290:True:=trivial
theorem tw3277229846650655979:True:=trivial
theorem tw3851428956369438258:True:=trivial
theorem tw1383625962624193546:True:=trivial
theorem tw10953238642706405951:True:=trivial
theorem tw3436067635600285980:True:=trivial
theorem tw5323657890516693427:True:=trivial
theorem tw4538635040379822027:True:=trivial
theorem tw9919008367099125623:True:=trivial
theorem tw8757050672659960515:True:=trivial
theorem tw13861969467909019144:True:=trivial
theorem tw4971374062829452455:True:=trivial
theorem tw16422413458241162112:True:=trivial
theorem tw6105849179199505303:True:=trivial
theorem tw3049343062529576306:True:=trivial
theorem tw9959121941294770655:True:=trivial
theorem tw13160504802963445071:True:=trivial
theorem tw3303267245142563540:True:=trivial
theorem tw17339309145561079191:True:=trivial
theorem tw11962351593759143498:True:=trivial
theorem tw5221592684559293012:True:=trivial
theorem tw16721508838639397229:True:=trivial
theorem tw14664691819916384248:True:=trivial
theorem tw726351398001015727:True:=trivial
theorem tw4102176305081739490:True:=trivial
theorem tw4548300405975405348:True:=trivial
theorem tw16053306600634468012:True:=trivial
theorem tw14689541978594310382:True:=trivial
theorem tw11401859456886640639:True:=trivial
theorem tw7873786274422454737:True:=trivial
theorem tw6651725471809605288:True:=trivial
theorem tw16109456028575089023:True:=trivial
theorem tw10910644110388302437:True:=trivial
theorem tw17823556299335049440:True:=trivial
theorem tw4382473104129494423:True:=trivial
theorem tw13298828918039433023:True:=trivial
theorem tw12461081396071149458:True:=trivial
theorem tw10510019762269167821:True:=trivial
theorem tw13567515925198824819:True:=trivial
theorem tw14479964200598819128:True:=trivial
theorem tw9744259246892133002:True:=trivial
theorem tw6945566481307383155:True:=trivial
theorem tw1891733041441978011:True:=trivial
theorem tw18094105663378112561:True:=trivial
theorem tw14827714588952709054:True:=trivial
theorem tw2692750590507578028:True:=trivial
theorem tw14607143338591219252:True:=trivial
theorem tw6508132753307246276:True:=trivial
theorem tw1205274952441263945:True:=trivial
theorem tw18003772858949239459:True:=trivial
theorem tw17558320327384617127:True:=trivial
theorem tw13034982811429478159:True:=trivial
theorem tw2925816871977632210:True:=trivial
theorem tw17590876675597686902:True:=trivial
theorem tw10576836333797772347:True:=trivial
theorem tw7607420049574824106:True:=trivial
theorem tw3652199383789512132:True:=trivial
theorem tw18407495941553956032:True:=trivial
theorem tw3676754643040562684:True:=trivial
theorem tw12468840222048715292:True:=trivial
theorem tw13343918040275786880:True:=trivial
theorem tw6327569006664949090:True:=trivial
theorem tw13813618637161013713:True:=trivial
theorem tw6469784823511061222:True:=trivial
theorem tw15861351967447197489:True:=trivial
theorem tw5498123283257192965:True:=trivial
theorem tw12727641955093265886:True:=trivial
theorem tw4290864757253303354:True:=trivial
theorem tw10258873121960336067:True:=trivial
theorem tw7538781388859322016:True:=trivial
theorem tw11076892268299887525:True:=trivial
theorem tw13459084325293418506:True:=trivial
theorem tw13769103115541136327:True:=trivial
theorem tw13421457143807847188:True:=trivial
theorem tw140001813534094272:True:=trivial
theorem tw3075201292733833056:True:=trivial
theorem tw11153475782318119604:True:=trivial
theorem tw6851275008772768644:True:=trivial
theorem tw5444512763150141072:True:=trivial
theorem tw14546174082565282566:True:=trivial
theorem tw5960047855520388891:True:=trivial
theorem tw3992765435912101610:True:=trivial
theorem tw18383651708701053236:True:=trivial
theorem tw523537741815420091:True:=trivial
theorem tw14961746396406840608:True:=trivial
theorem tw3543459598558145280:True:=trivial
theorem tw2694234056635809718:True:=trivial
theorem tw15438627641174518403:True:=trivial
theorem tw10876078143196172821:True:=trivial
theorem tw615563214671542189:True:=trivial
theorem tw14993981098963755598:True:=trivial
theorem tw12298192366917762067:True:=trivial
theorem tw4562827626845409882:True:=trivial
theorem tw14845619989558847073:True:=trivial
theorem tw14404928986312190071:True:=trivial
theorem tw10551173667578312727:True:=trivial
theorem tw361630507309040102:True:=trivial
theorem tw17029562028150658980:True:=trivial
theorem tw12181724978637537880:True:=trivial
theorem tw13135312941875745310:True:=trivial
theorem tw8972062959192195235:True:=trivial
theorem tw6984818610989830729:True:=trivial
theorem tw12930229547647579594:True:=trivial
theorem tw1835071406663858368:True:=trivial
theorem tw938635154573522699:True:=trivial
theorem tw5449563278759341024:True:=trivial
theorem tw15267169705364848929:True:=trivial
theorem tw12396662096508845406:True:=trivial
theorem tw11898673842065290130:True:=trivial
theorem tw10624116801336726872:True:=trivial
theorem tw9399754086935153974:True:=trivial
theorem tw17510684818845775701:True:=trivial
theorem tw256976265262469064:True:=trivial
theorem tw9947508896943372755:True:=trivial
theorem tw13674586047789940208:True:=trivial
theorem tw5000232492035539693:True:=trivial
theorem tw11263768400469242888:True:=trivial
theorem tw12740759652641322565:True:=trivial
theorem tw6278996535519779258:True:=trivial
end PySem.W.Fast
section
open PySem PySem.W PyProof.Rows
set_option maxRecDepth 100000 in
set_option maxHeartbeats 0 in
open_top hd for PySem.Challenge.rw_tenreckon_k35_whole_quotients_exactly
end
namespace L2
open PySem PySem.Spec PyProof.Rows
abbrev Key := Sum Int Str
def A0qv : Key -> Value -> Bool
 | .inl k, v => Value.isInt k v
 | .inr x, v => Value.isStrOf x v
def keyH (w : World) : Key -> Int
 | .inl k => hashInt k
 | .inr x => hashStr w x
theorem Y4 : ∀ {k : Key} {v : Value}, A0qv k v = true -> (∃ i t, k = Sum.inl i /\ v = Value.int i t) \/ (∃ x t, k = Sum.inr x /\ v = Value.str x t)
 | .inl i, v, h => by
   obtain ⟨t, e⟩ := Value.isInt_shape (k := i) (v := v) h
   exact .inl ⟨i, t, rfl, e⟩
 | .inr x, v, h => by
   obtain ⟨t, e⟩ := Value.isStrOf_shape (x := x) (v := v) h
   exact .inr ⟨x, t, rfl, e⟩
theorem A0rs (a b : Int) : decide ((Sum.inl a : Key) = Sum.inl b) = (a == b) := by
 by_cases e : a = b
 . subst e; simp
 have h : ¬ (Sum.inl a : Key) = Sum.inl b := fun q => e (Sum.inl.inj q)
 rw [decide_eq_false h]
 exact (beq_eq_false_iff_ne.mpr e).symm
theorem A0rh (a b : Str) : decide ((Sum.inr a : Key) = Sum.inr b) = decide (a = b) := by
 by_cases e : a = b
 . subst e; simp
 have h : ¬ (Sum.inr a : Key) = Sum.inr b := fun q => e (Sum.inr.inj q)
 rw [decide_eq_false h, decide_eq_false e]
theorem A0sv (a : Int) (b : Str) : decide ((Sum.inl a : Key) = Sum.inr b) = false := decide_eq_false (fun q => nomatch q)
theorem A0tt (a : Str) (b : Int) : decide ((Sum.inr a : Key) = Sum.inl b) = false := decide_eq_false (fun q => nomatch q)
def V2y (prog : Program) (w : World) : PySem.KeyKind prog w Key where
 is := A0qv
 hash := keyH w
 inj := fun v a b ha hb => by
   rcases Y4 ha with ⟨i, t, rfl, rfl⟩ | ⟨x, t, rfl, rfl⟩
   . rcases Y4 hb with ⟨j, u, rfl, e⟩ | ⟨y, u, rfl, e⟩
     . injection e with e1 _; rw [e1]
     . exact nomatch e
   . rcases Y4 hb with ⟨j, u, rfl, e⟩ | ⟨y, u, rfl, e⟩
     . exact nomatch e
     . injection e with e1 _; rw [e1]
 byValue := fun k v h => by
   rcases Y4 h with ⟨i, t, rfl, rfl⟩ | ⟨x, t, rfl, rfl⟩ <;> rfl
 pyHash := fun hv h => by
   rcases Y4 hv with ⟨i, t, rfl, rfl⟩ | ⟨x, t, rfl, rfl⟩
   . exact wpAny_pyHash_int h
   . exact wpAny_pyHash_str h
 eqBool := fun hu hv h => by
   rcases Y4 hu with ⟨i, t, rfl, rfl⟩ | ⟨x, t, rfl, rfl⟩
   . rcases Y4 hv with ⟨j, u, rfl, rfl⟩ | ⟨y, u, rfl, rfl⟩
     . rw [A0rs] at h; exact wpAny_eqBool_int h
     . rw [A0sv] at h; exact SeqAt.EqAt.int_str i t y u _ _ _ _ h
   . rcases Y4 hv with ⟨j, u, rfl, rfl⟩ | ⟨y, u, rfl, rfl⟩
     . rw [A0tt] at h; exact SeqAt.EqAt.str_int x t j u _ _ _ _ h
     . rw [A0rh] at h; exact wpAny_eqBool_str h
 «strs» := fun k x t v h => by
   rcases Y4 h with ⟨i, u, rfl, e⟩ | ⟨y, u, rfl, e⟩
   . exact nomatch e
   . injection e with e1 _
     subst e1
     cases v <;> rfl
inductive V where
 | non | bl (b : Bool) | int (i : Int) | str (x : Str) | byt (b : Array UInt8) | flt (b : UInt64) | ref (a : Addr) | ty (n : String)
 deriving DecidableEq
def V0 : V -> Value -> Prop
 | .non, u => u = Value.none
 | .bl b, u => u = Value.bool b
 | .int i, u => ∃ t, u = Value.int i t
 | .str x, u => ∃ t, u = Value.str x t
 | .byt b, u => ∃ t, u = Value.bytes b t
 | .flt b, u => ∃ t, u = Value.float b t
 | .ref a, u => u = Value.ref a
 | .ty n, u => u = Value.type n
abbrev U2 : List V -> List Value -> Prop := Paired V0
theorem U2.length {xs : List V} {us : List Value} (r : U2 xs us) : xs.length = us.length := Paired.length r
theorem U2.get : ∀ {xs : List V} {us : List Value} {i : Nat} {x : V}, U2 xs us -> xs[i]? = some x -> ∃ u, us[i]? = some u /\ V0 x u
 | _, _, _, _, .nil, e => by simp at e
 | _, _, 0, _, .cons r _, e => by simp at e; subst e; exact ⟨_, rfl, r⟩
 | _, _, i + 1, x, .cons _ t, e => by
   obtain ⟨u, h1, h2⟩ := U2.get (i := i) (x := x) t (by simpa using e)
   exact ⟨u, by simpa using h1, h2⟩
theorem U2.set {x : V} {u : Value} (r : V0 x u) : ∀ {xs : List V} {us : List Value} (i : Nat), U2 xs us -> U2 (xs.set i x) (us.set i u)
 | _, _, _, .nil => .nil
 | _, _, 0, .cons _ t => .cons r t
 | _, _, i + 1, .cons q t => .cons q (U2.set r i t)
theorem U2.append : ∀ {xs ys : List V} {us ws : List Value}, U2 xs us -> U2 ys ws -> U2 (xs ++ ys) (us ++ ws)
 | _, _, _, _, .nil, s => s
 | _, _, _, _, .cons r t, s => .cons r (U2.append t s)
def C7g : Option V -> Option Value -> Prop
 | some v, some u => V0 v u
 | none, none => True
 | _, _ => False
def KV {κ : Type} : List (κ × V) -> List (κ × Value) -> Prop := Paired fun (p : κ × V) (q : κ × Value) => p.1 = q.1 /\ V0 p.2 q.2
def kV : Key -> V
 | .inl i => .int i
 | .inr x => .str x
inductive HO where
 | lst (xs : List V)
 | tup (xs : List V)
 | dK (kvs : List (Key × V)) | dT (kvs : List (List Key × V))
 | set (S : Int -> Bool) (n : Nat)
 | ins (C dx : Addr) (fs : List (Str × V))
 | own (x : Addr)
 | xd (fs : List (Str × V))
 | met (f x : Addr)
 | rng (lo hi : Int)
 | frz (o : Obj) (u : HO)
 | tbl (ps : Array Value)
 | ext (φ : Heap -> Prop)
abbrev Hp := Addr -> Option HO
def upd (H : Hp) (a : Addr) (o : HO) : Hp := fun b => if b = a then some o else H b
theorem A7 {H : Hp} {a : Addr} {o : HO} : upd H a o a = some o := by unfold upd; rw [if_pos rfl]
theorem G6 {H : Hp} {a b : Addr} {o : HO} (h : b ≠ a) : upd H a o b = H b := by unfold upd; rw [if_neg h]
theorem A0ja {H : Hp} {a : Addr} {o u : HO} : upd (upd H a o) a u = upd H a u := by
 funext b; unfold upd; split <;> rfl
theorem A6y {H : Hp} {a b : Addr} {o u : HO} (h : H a = some o) (h' : H b = some u) (d : o ≠ u) : a ≠ b := by
 intro e; subst e; rw [h] at h'; exact d (Option.some.inj h')
theorem G7 {H : Hp} {a b : Addr} {o : HO} (h : H a = some o) (h' : H b = none) : a ≠ b := by
 intro e; subst e; rw [h] at h'; cases h'
section
variable (P : Program) (w : World)
def A0g (H : Hp) (h : Heap) (a : Addr) : HO -> Prop
 | .lst xs => xs.length <= sizeLine /\ ∃ (its : List Value) (n : Nat), U2 xs its /\ h.get? a = some { cls := .type "list", data := .seq its.toArray n }
 | .tup xs => xs.length <= sizeLine /\ ∃ its : List Value, U2 xs its /\ IsTup h a its.toArray
 | .dK kvs => kvs.length <= sizeLine /\ (a == sysModules) = false /\ ∃ vs, KV kvs vs /\ h.DictOf (V2y P w) a vs
 | .dT kvs => kvs.length <= sizeLine /\ (a == sysModules) = false /\ ∃ xs : List (List Key × Addr × Value),
     Paired (fun (p : List Key × V) (q : List Key × Addr × Value) => p.1 = q.1 /\ H q.2.1 = some (.tup (p.1.map kV)) /\ V0 p.2 q.2.2) kvs xs /\
     ∃ o es ep, h.get? a = some o /\ o.ExactDict /\ o.data = .dict es ep /\ es.toList = xs.map (entryOfKey (tupleKind (V2y P w))) /\ (xs.map (·.1)).Nodup
 | .set S n => h.SetOf (intKind P w) a S n
 | .ins C dx fs => H dx = some (.own a) /\ fs.length <= 1000 /\ dx ≠ a /\ h.get? a = some (PySem.W.instObj C dx) /\
     ∃ mA, h.Ns1 dx mA /\ (∀ f, C7g (fs.lookup f) (mA f)) /\ PySem.Within mA (fs.map (·.1))
 | .own _ => ∃ o, h.get? a = some o
 | .xd fs => ∃ mA, h.Ns1 a mA /\ ∀ f, C7g (fs.lookup f) (mA f)
 | .rng lo hi => ∃ t u v, h.get? a = some { cls := .type "range", data := .fields #[.int lo t, .int hi u, .int 1 v] }
 | .frz o u => h.get? a = some o /\ A0g H h a u
 | .tbl ps => h.get? a = some { cls := .none, data := .fields ps }
 | .met f x => h.get? a = some (PySem.W.methodObj (.ref f) (.ref x))
 | .ext φ => φ h /\ (∃ o, h.get? a = some o) /\ ∀ h1 h2 : Heap, φ h1 -> (∀ o, h1.get? a = some o -> h2.get? a = some o) -> φ h2
def HOk (H : Hp) (h : Heap) : Prop := ∀ a o, H a = some o -> A0g P w H h a o
end
section
variable {P : Program} {w : World} {H H' : Hp} {h h' : Heap} {a : Addr} {o : HO}
theorem A0g.lt (x : A0g P w H h a o) : a < h.objs.size := by
 cases o with
 | lst xs => obtain ⟨_, _, _, _, e⟩ := x; exact Heap.lt_size e
 | tup xs => obtain ⟨_, _, _, p⟩ := x; exact p.lt
 | dK kvs => obtain ⟨_, _, _, _, o, _, _, e, _⟩ := x; exact Heap.lt_size e
 | dT kvs => obtain ⟨_, _, _, _, o, _, _, e, _⟩ := x; exact Heap.lt_size e
 | set S n => obtain ⟨o, _, _, _, e, _⟩ := x; exact Heap.lt_size e
 | ins C dx fs => obtain ⟨_, _, _, e, _⟩ := x; exact Heap.lt_size e
 | own y => obtain ⟨_, e⟩ := x; exact Heap.lt_size e
 | xd fs => obtain ⟨_, ⟨_, _, _, e, _⟩, _⟩ := x; exact Heap.lt_size e
 | rng lo hi => obtain ⟨_, _, _, e⟩ := x; exact Heap.lt_size e
 | frz ob u => obtain ⟨e, _⟩ := x; exact Heap.lt_size e
 | tbl ps => exact Heap.lt_size (show h.get? a = some _ from x)
 | met f y => exact Heap.lt_size (show h.get? a = some _ from x)
 | ext φ => obtain ⟨_, ⟨_, e⟩, _⟩ := x; exact Heap.lt_size e
theorem Paired.mapP {α β : Type} {F G : α -> β -> Prop} : ∀ {l₁ : List α} {l₂ : List β}, Paired F l₁ l₂ -> (∀ a b, F a b -> G a b) -> Paired G l₁ l₂
 | _, _, .nil, _ => .nil
 | _, _, .cons r t, f => .cons (f _ _ r) (Paired.mapP t f)
theorem A0g.stay (x : A0g P w H h a o) (k : ∀ b u, (b = a \/ H b = some (.own a)) -> h.get? b = some u -> h'.get? b = some u)
   (ho : ∀ b, H b = some (.own a) -> H' b = some (.own a)) (ht : ∀ b xs, H b = some (.tup xs) -> H' b = some (.tup xs)) : A0g P w H' h' a o := by
 induction o with
 | lst xs => obtain ⟨z, its, n, r, e⟩ := x; exact ⟨z, its, n, r, k _ _ (.inl rfl) e⟩
 | tup xs => obtain ⟨z, its, r, ob, e, c⟩ := x; exact ⟨z, its, r, ob, k _ _ (.inl rfl) e, c⟩
 | dK kvs => obtain ⟨z, y, vs, r, ob, es, ep, e, c⟩ := x; exact ⟨z, y, vs, r, ob, es, ep, k _ _ (.inl rfl) e, c⟩
 | dT kvs =>
   obtain ⟨z, y, xs, r, ob, es, ep, e, c⟩ := x
   exact ⟨z, y, xs, Paired.mapP r fun p q z => ⟨z.1, ht _ _ z.2.1, z.2.2⟩, ob, es, ep, k _ _ (.inl rfl) e, c⟩
 | set S n => obtain ⟨ob, es, ep, t, e, c⟩ := x; exact ⟨ob, es, ep, t, k _ _ (.inl rfl) e, c⟩
 | ins C dx fs =>
   obtain ⟨d, z, ne, e, mA, ⟨od, es, ep, e2, c⟩, r⟩ := x
   exact ⟨ho _ d, z, ne, k _ _ (.inl rfl) e, mA, ⟨od, es, ep, k _ _ (.inr d) e2, c⟩, r⟩
 | own y => obtain ⟨ob, e⟩ := x; exact ⟨ob, k _ _ (.inl rfl) e⟩
 | xd fs => obtain ⟨mA, ⟨od, es, ep, e, c⟩, r⟩ := x; exact ⟨mA, ⟨od, es, ep, k _ _ (.inl rfl) e, c⟩, r⟩
 | rng lo hi => obtain ⟨t, u, v, e⟩ := x; exact ⟨t, u, v, k _ _ (.inl rfl) e⟩
 | frz ob u ih => obtain ⟨e, q⟩ := x; exact ⟨k _ _ (.inl rfl) e, ih q⟩
 | tbl ps =>
   have e : h.get? a = some { cls := .none, data := .fields ps } := x
   show h'.get? a = some { cls := .none, data := .fields ps }
   exact k a _ (.inl rfl) e
 | met f y =>
   have e : h.get? a = some (PySem.W.methodObj (.ref f) (.ref y)) := x
   show h'.get? a = some (PySem.W.methodObj (.ref f) (.ref y))
   exact k a _ (.inl rfl) e
 | ext φ => obtain ⟨p, ⟨o, e⟩, st⟩ := x; exact ⟨st _ _ p fun o q => k _ _ (.inl rfl) q, ⟨o, k _ _ (.inl rfl) e⟩, st⟩
theorem HOk.lt (x : HOk P w H h) (e : H a = some o) : a < h.objs.size := (x a o e).lt
theorem HOk.fresh (x : HOk P w H h) (e : h.objs.size <= a) : H a = none := by
 cases q : H a with
 | none => rfl
 | some u => exact absurd (Nat.lt_of_lt_of_le (x.lt q) e) (Nat.lt_irrefl _)
theorem HOk.kept (x : HOk P w H h) (k : ∀ b u, h.get? b = some u -> h'.get? b = some u) : HOk P w H h' := fun a o e =>
 (x a o e).stay (fun b u _ q => k b u q) (fun _ q => q) fun _ _ q => q
theorem HOk.laid (x : HOk P w H h) (k : ∀ b u, h.get? b = some u -> h'.get? b = some u) (hp : h.objs.size <= a) (new : A0g P w (upd H a o) h' a o) : HOk P w (upd H a o) h' := fun b u e => by
 have hn := x.fresh hp
 by_cases hb : b = a
 . subst hb; rw [A7] at e; cases e; exact new
 . rw [G6 hb] at e
   exact (x b u e).stay (fun c v _ q => k c v q) (fun c q => by rw [G6 (G7 q hn)]; exact q) fun c xs q => by rw [G6 (G7 q hn)]; exact q
end
def Rd (H : Hp) (a : Addr) (u : HO) : Prop := H a = some u \/ ∃ o, H a = some (.frz o u)
theorem Rd.ok {P : Program} {w : World} {H : Hp} {h : Heap} {a : Addr} {u : HO} (r : Rd H a u) (x : HOk P w H h) : A0g P w H h a u := by
 rcases r with r | ⟨o, r⟩
 . exact x a u r
 obtain ⟨_, q⟩ := x a _ r
 exact q
def Mut : Option HO -> Prop
 | some (.lst _) => True
 | some (.dK _) => True
 | some (.dT _) => True
 | some (.set _ _) => True
 | some (.ins _ _ _) => True
 | some (.ext _) => True
 | _ => False
section
variable {P : Program} {w : World} {H : Hp} {h h' : Heap} {x e : Addr} {o' : HO}
theorem HOk.write (ok : HOk P w H h) (mu : Mut (H x)) (he : e = x \/ H e = some (.own x)) (k : ∀ b u, b ≠ e -> h.get? b = some u -> h'.get? b = some u) (heo : ∃ u, h'.get? e = some u)
   (new : A0g P w (upd H x o') h' x o') : HOk P w (upd H x o') h' := fun b u q => by
 have nown : ∀ c y, H c = some (.own y) -> c ≠ x := fun c y r z => by subst z; rw [r] at mu; exact mu
 have ntup : ∀ c xs, H c = some (.tup xs) -> c ≠ x := fun c xs r z => by subst z; rw [r] at mu; exact mu
 by_cases hb : b = x
 . subst hb; rw [A7] at q; cases q; exact new
 . rw [G6 hb] at q
   by_cases hbe : b = e
   . have q' : H b = some (.own x) := by
       rcases he with z | z
       . exact absurd (hbe.trans z) hb
       . rw [hbe]; exact z
     rw [q] at q'; cases q'
     obtain ⟨v, hv⟩ := heo
     exact ⟨v, by rw [hbe]; exact hv⟩
   . refine (ok b u q).stay (fun c v hc r => k c v ?_ r) (fun c r => by rw [G6 (nown c b r)]; exact r) fun c xs r => by rw [G6 (ntup c xs r)]; exact r
     rcases hc with rfl | hc
     . exact hbe
     . rintro rfl
       rcases he with z | z
       . exact nown c b hc z
       . rw [hc] at z; cases z; exact hb rfl
end
structure Un (fs ex : List Addr) (H H' : Hp) (h h' : Heap) : Prop where
 keep : ∀ b o, h.get? b = some o -> H b = none -> b ∉ fs -> b ∉ ex -> h'.get? b = some o
 slot : ∀ b o, h.get? b = some o -> H b = none -> b ∈ fs -> b ∉ ex -> ∃ sl, h'.get? b = some { o with slots := sl }
 free : ∀ b o, h.get? b = some o -> H b = none -> b ∉ ex -> H' b = none
 there : ∀ b o, h.get? b = some o -> b ∉ ex -> ∃ o', h'.get? b = some o'
 tups : ∀ b xs, H b = some (.tup xs) -> H' b = some (.tup xs)
 frzs : ∀ b o u, H b = some (.frz o u) -> H' b = some (.frz o u)
 tbls : ∀ b ps, H b = some (.tbl ps) -> ∃ more, H' b = some (.tbl (ps ++ more))
section
variable {fs fs' ex ex' : List Addr} {H H1 H2 : Hp} {h h1 h2 h' : Heap} {a x e : Addr} {o : HO}
theorem Un.any (u : Un fs ex H H1 h h1) {b : Addr} {ob : Obj} (q : h.get? b = some ob) (n : H b = none) (hx : b ∉ ex) : ∃ sl, h1.get? b = some { ob with slots := sl } := by
 by_cases hb : b ∈ fs
 . exact u.slot b ob q n hb hx
 exact ⟨ob.slots, u.keep b ob q n hb hx⟩
theorem Un.kept (k : ∀ b u, h.get? b = some u -> h'.get? b = some u) : Un fs ex H H h h' :=
 ⟨fun b ob q _ _ _ => k b ob q, fun b ob q _ _ _ => ⟨ob.slots, k b ob q⟩, fun _ _ _ n _ => n, fun b ob q _ => ⟨ob, k b ob q⟩, fun _ _ q => q, fun _ _ _ q => q, fun _ ps q => ⟨#[], by rw [q]; simp⟩⟩
theorem Un.refl : Un fs ex H H h h := Un.kept fun _ _ q => q
theorem Un.laid (k : ∀ b u, h.get? b = some u -> h'.get? b = some u) (hp : h.objs.size <= a) (hn : H a = none) : Un fs ex H (upd H a o) h h' where
 keep := fun b u q _ _ _ => k b u q
 slot := fun b u q _ _ _ => ⟨u.slots, k b u q⟩
 free := fun b u q n _ => by rw [G6 (Nat.ne_of_lt (Nat.lt_of_lt_of_le (Heap.lt_size q) hp))]; exact n
 there := fun b u q _ => ⟨u, k b u q⟩
 tups := fun b xs q => by rw [G6 (G7 q hn)]; exact q
 frzs := fun b u xs q => by rw [G6 (G7 q hn)]; exact q
 tbls := fun b ps q => ⟨#[], by rw [G6 (G7 q hn), q]; simp⟩
theorem Un.write (mu : Mut (H x)) (he : e = x \/ H e = some (.own x)) (k : ∀ b u, b ≠ e -> h.get? b = some u -> h'.get? b = some u) (heo : ∃ u, h'.get? e = some u) : Un fs ex H (upd H x o) h h' := by
 have hx : ∀ b, H b = none -> b ≠ x := fun b n z => by subst z; rw [n] at mu; exact mu
 have hb : ∀ b, H b = none -> b ≠ e := fun b n z => by
   subst z
   rcases he with r | r
   . exact hx b n r
   . rw [n] at r; cases r
 have hm : ∀ b u, H b = some u -> ¬ Mut (some u) -> b ≠ x := fun b u q nm z => by subst z; rw [q] at mu; exact nm mu
 refine ⟨fun b u q n _ _ => k b u (hb b n) q, fun b u q n _ _ => ⟨u.slots, k b u (hb b n) q⟩, fun b u q n _ => by rw [G6 (hx b n)]; exact n, fun b u q _ => ?_,
   fun b xs q => by rw [G6 (hm b _ q fun z => z)]; exact q, fun b u xs q => by rw [G6 (hm b _ q fun z => z)]; exact q, fun b ps q => ⟨#[], by rw [G6 (hm b _ q fun z => z), q]; simp⟩⟩
 by_cases hbe : b = e
 . subst hbe; exact heo
 exact ⟨u, k b u hbe q⟩
end
def trk (h : Heap) (H : Hp) : List Addr := (List.range h.objs.size).filter fun a => (H a).isSome
def G1h (h : Heap) (H : Hp) : Heap := PySem.W.hideAll h (trk h H)
theorem V6y (h : Heap) (H : Hp) : (G1h h H).objs.size = h.objs.size := PySem.W.hideAll_size _ _
theorem Y4s {h : Heap} {H : Hp} {b : Addr} {o : Obj} (e : h.get? b = some o) (n : H b = none) : (G1h h H).get? b = some o :=
 PySem.W.hideAll_get _ e fun hm => by
   have q : (H b).isSome = true := (List.mem_filter.mp hm).2
   rw [n] at q; simp at q
theorem A0hu {h : Heap} {H : Hp} {b : Addr} {o : Obj} (e : (G1h h H).get? b = some o) : h.get? b = some o /\ H b = none := by
 have e' : h.get? b = some o := PySem.W.of_hideAll (trk h H) e
 refine ⟨e', ?_⟩
 cases q : H b with
 | none => rfl
 | some x =>
   have hm : b ∈ trk h H := List.mem_filter.mpr ⟨List.mem_range.mpr (Heap.lt_size e'), by simp [q]⟩
   have z : (G1h h H).get? b = none := PySem.W.hideAll_none (trk h H) hm
   rw [z] at e; cases e
structure Mod (K : PySem.W.Frag) (mg : Str -> Option Value) (base : Heap) : Prop where
 kin : K.In base
 glob : base.Ns mainGlobals mg
 blt : ∃ mb, base.Ns builtinsNs mb /\ ∀ x : Str, x ≠ "__name__" -> mb x = bootBuiltins x
 nolimit : base.NoLimit
structure Cx where
 prog : Program
 w : World
 K : PySem.W.Frag
 mg : Str -> Option Value
 base : Heap
 A : Around
 N : List Str
 s₀ : Shared
 H₀ : Hp
 env : Env
 outer : List Env
 stack : List Env
 ex : List Addr
 fn : Str -> Bool
 calm : Bool
 pn : List (Addr × Obj)
 xe : Value -> Shared -> Prop
def frs (l : List Env) : List Addr := l.filterMap (·.frame)
abbrev Cx.fs (X : Cx) : List Addr := frs X.outer
def Vis (sc : Scope) (x : Str) : Prop := sc.names.lookup x = some .local \/ sc.names.lookup x = some .cell \/ sc.names.lookup x = some .free
def Loc (sc : Scope) (x : Str) : Prop := sc.names.lookup x = some .local \/ sc.names.lookup x = some .cell
def Look (env : Env) (h : Heap) (m : Str -> Option Value) (x : Str) (u : Value) : Prop :=
 (env.kindOf x = some .local /\ m x = some u) \/ ((env.kindOf x = some .cell \/ env.kindOf x = some .free) /\ ∃ c, env.cells.lookup x = some c /\ h.IsCell c (some u))
structure Cx.Ok (X : Cx) : Prop where
 mod : Mod X.K X.mg X.base
 kind : X.env.scope.kind = .function
 glob : X.env.globals = mainGlobals
 blt : X.env.builtins = builtinsNs
 above : X.s₀.heap.objs.size <= X.env.locals
 inj : ∀ x y c, X.env.cells.lookup x = some c -> X.env.cells.lookup y = some c -> x = y
 has : ∀ x, (X.env.kindOf x = some .cell \/ X.env.kindOf x = some .free) -> ∃ c, X.env.cells.lookup x = some c
 cab : ∀ x c, X.fn x = true -> X.env.cells.lookup x = some c -> X.s₀.heap.objs.size <= c
 hd : X.calm = true -> X.A.handled = none
 frames : X.A.frames = some X.stack
 stk : X.stack = X.outer \/ (X.stack = X.env :: X.outer /\ X.env.frame = some X.env.locals)
 exf : ∀ b ∈ X.ex, b ≠ X.env.locals /\ ∀ x c, X.env.cells.lookup x = some c -> c ≠ b
 bs : ∀ b o, X.base.get? b = some o -> X.s₀.heap.get? b = some o /\ X.H₀ b = none
 bsz : X.base.objs.size <= X.s₀.heap.objs.size
 noex : ∀ b o, X.base.get? b = some o -> b ∉ X.ex
 exfs : ∀ b ∈ X.ex, b ∉ X.fs
 funs : X.s₀.heap.FunFrames X.base X.outer
 frf : ∀ b ∈ X.fs, X.H₀ b = none
structure Inv (X : Cx) (pins : List (Addr × Obj)) (σ : List (Option V)) (H : Hp) (s : Shared) : Prop where
 ok : X.Ok
 os : s.os = X.s₀.os
 bare : AllBare s.gens
 base : Un X.fs X.ex X.H₀ H X.s₀.heap s.heap
 loc : ∃ m, s.heap.Ns X.env.locals m /\ ∀ (i : Nat) (x : Str) (v : V), X.N[i]? = some x -> σ[i]? = some (some v) -> Vis X.env.scope x -> ∃ u, V0 v u /\ Look X.env s.heap m x u
 cell : ∀ x c, X.env.cells.lookup x = some c -> ∃ v, s.heap.IsCell c v
 free : H X.env.locals = none
 freeC : ∀ x c, X.env.cells.lookup x = some c -> H c = none
 pin : ∀ p ∈ X.pn ++ pins, s.heap.get? p.1 = some p.2 /\ H p.1 = none /\ p.1 ≠ X.env.locals /\ p.1 ∉ X.fs /\ ∀ v, p.2.data ≠ .cell v
 hok : HOk X.prog X.w H s.heap
 len : σ.length = X.N.length
section
variable {X : Cx} {pins : List (Addr × Obj)} {σ : List (Option V)} {H H' : Hp} {s : Shared} {h' : Heap}
theorem Cx.Ok.nofr (ok : X.Ok) {b : Addr} {o : Obj} (e : X.base.get? b = some o) : b ∉ X.fs := fun hb => by
 have := (ok.funs.mem hb).1
 rw [e] at this; cases this
theorem Inv.bs (I : Inv X pins σ H s) : ∀ b o, X.base.get? b = some o -> s.heap.get? b = some o /\ H b = none := fun b o e =>
 ⟨I.base.keep b o (I.ok.bs b o e).1 (I.ok.bs b o e).2 (I.ok.nofr e) (I.ok.noex b o e), I.base.free b o (I.ok.bs b o e).1 (I.ok.bs b o e).2 (I.ok.noex b o e)⟩
theorem Inv.bk (I : Inv X pins σ H s) : ∀ b o, X.base.get? b = some o -> s.heap.get? b = some o := fun b o e => (I.bs b o e).1
theorem Inv.mod (I : Inv X pins σ H s) : Mod X.K X.mg X.base := I.ok.mod
theorem Inv.kIn (I : Inv X pins σ H s) : X.K.In s.heap := I.ok.mod.kin.keeps I.bk
theorem Inv.lt (I : Inv X pins σ H s) : X.env.locals < s.heap.objs.size := let ⟨_, hn, _⟩ := I.loc; hn.lt
theorem Inv.sz (I : Inv X pins σ H s) : X.s₀.heap.objs.size <= s.heap.objs.size := Nat.le_trans I.ok.above (Nat.le_of_lt I.lt)
theorem Inv.nofs (I : Inv X pins σ H s) {a : Addr} (h : s.heap.objs.size <= a) : a ∉ X.fs := fun hb => by
 obtain ⟨_, o, ho, _⟩ := I.ok.funs.mem hb
 exact absurd (Nat.lt_of_lt_of_le (Heap.lt_size ho) (Nat.le_trans I.sz h)) (Nat.lt_irrefl _)
theorem Inv.cne (I : Inv X pins σ H s) : ∀ x c, X.env.cells.lookup x = some c -> c ≠ X.env.locals := fun x c e z => by
 obtain ⟨v, o, ho, hd⟩ := I.cell x c e
 obtain ⟨m, ⟨o', es, ep, ho', hd', _⟩, _⟩ := I.loc
 rw [z, ho'] at ho; cases ho; rw [hd'] at hd; cases hd
theorem Inv.funs (I : Inv X pins σ H s) : s.heap.FunFrames X.base X.outer := by
 have all : ∀ (l : List Env), (∀ b ∈ frs l, b ∈ X.fs) -> X.s₀.heap.FunFrames X.base l -> s.heap.FunFrames X.base l := by
   intro l
   induction l with
   | nil => intro _ _; trivial
   | cons env r ih =>
     intro hs hl
     obtain ⟨hk, ⟨L, o, hf, hn, ho, hd⟩, hr⟩ := hl
     have hL : L ∈ X.fs := hs L (by unfold frs; rw [List.filterMap_cons, hf]; exact List.mem_cons_self)
     obtain ⟨sl, e⟩ := I.base.slot L o ho (I.ok.frf L hL) hL fun z => I.ok.exfs L z hL
     exact ⟨hk, ⟨L, _, hf, hn, e, hd⟩, ih (fun b hb => hs b (by unfold frs; rw [List.filterMap_cons, hf]; exact List.mem_cons_of_mem _ hb)) hr⟩
 exact all X.outer (fun _ hb => hb) I.ok.funs
theorem Inv.stack (I : Inv X pins σ H s) : s.heap.FunFrames X.base X.stack := by
 rcases I.ok.stk with e | ⟨e, hf⟩
 . rw [e]; exact I.funs
 rw [e]
 obtain ⟨m, hn, _⟩ := I.loc
 refine .cons (by rw [I.ok.kind]; decide) hf hn ?_ I.funs
 exact Heap.get?_none_of_le (Nat.le_trans I.ok.bsz I.ok.above)
theorem Inv.stkSub (I : Inv X pins σ H s) : ∀ b ∈ frs X.stack, b ∈ X.env.locals :: X.fs := fun b hb => by
 rcases I.ok.stk with e | ⟨e, hf⟩
 . rw [e] at hb; exact List.mem_cons_of_mem _ hb
 . rw [e] at hb
   unfold frs at hb
   rw [List.filterMap_cons, hf] at hb
   exact hb
theorem Inv.stkFree (I : Inv X pins σ H s) : ∀ b ∈ frs X.stack, H b = none := fun b hb => by
 rcases List.mem_cons.mp (I.stkSub b hb) with e | hb
 . rw [e]; exact I.free
 . obtain ⟨_, o, ho, _⟩ := I.ok.funs.mem hb
   exact I.base.free b o ho (I.ok.frf b hb) fun z => I.ok.exfs b z hb
theorem Inv.step {g' : Array GenState} {t' : Nat} {d' : Drawn} {ch : List Addr} (I : Inv X pins σ H s)
   (hch : ∀ b ∈ ch, (b ∈ X.ex \/ X.s₀.heap.objs.size <= b) /\ b ≠ X.env.locals /\ (∀ x c, X.env.cells.lookup x = some c -> c ≠ b) /\ ∀ p ∈ X.pn ++ pins, p.1 ≠ b)
   (keep : ∀ b o, b ≠ X.env.locals -> b ∉ X.fs -> b ∉ ch -> s.heap.get? b = some o -> H b = none -> h'.get? b = some o)
   (slot : ∀ b o, b ≠ X.env.locals -> b ∈ X.fs -> b ∉ ch -> s.heap.get? b = some o -> H b = none -> ∃ sl, h'.get? b = some { o with slots := sl }) (free : ∀ b o, b ∉ ch -> s.heap.get? b = some o -> H b = none -> H' b = none)
   (there : ∀ b o, b ∉ ch -> s.heap.get? b = some o -> ∃ o', h'.get? b = some o')
   (tups : ∀ b xs, H b = some (.tup xs) -> H' b = some (.tup xs)) (frzs : ∀ b o u, H b = some (.frz o u) -> H' b = some (.frz o u)) (tbls : ∀ b ps, H b = some (.tbl ps) -> ∃ more, H' b = some (.tbl (ps ++ more)))
   (ns : ∀ m, s.heap.Ns X.env.locals m -> h'.Ns X.env.locals m) (hok : HOk X.prog X.w H' h') (hg : AllBare g') :
   Inv X pins σ H' { s with heap := h', gens := g', drawn := d', toks := t' } := by
 have neL : ∀ b o, X.s₀.heap.get? b = some o -> b ≠ X.env.locals := fun b o e => Nat.ne_of_lt (Nat.lt_of_lt_of_le (Heap.lt_size e) I.ok.above)
 have neC : ∀ b o, X.s₀.heap.get? b = some o -> b ∉ X.ex -> b ∉ ch := fun b o e hx hb => by
   rcases (hch b hb).1 with z | z
   . exact hx z
   . exact absurd (Nat.lt_of_lt_of_le (Heap.lt_size e) z) (Nat.lt_irrefl _)
 have cellK : ∀ x c, X.env.cells.lookup x = some c -> ∀ v, s.heap.IsCell c v -> h'.IsCell c v := fun x c e v ⟨o, ho, hd⟩ => by
   have nch : c ∉ ch := fun z => (hch c z).2.2.1 x c e rfl
   by_cases hc : c ∈ X.fs
   . obtain ⟨sl, q⟩ := slot c o (I.cne x c e) hc nch ho (I.freeC x c e)
     exact ⟨_, q, hd⟩
   . exact ⟨o, keep c o (I.cne x c e) hc nch ho (I.freeC x c e), hd⟩
 refine ⟨I.ok, I.os, hg, ⟨fun b o e n hb hx => ?_, fun b o e n hb hx => ?_, fun b o e n hx => ?_, fun b o e hx => ?_, fun b xs e => tups b xs (I.base.tups b xs e), fun b o xs e => frzs b o xs (I.base.frzs b o xs e), fun b ps e => ?_⟩, ?_, fun x c e => ?_, ?_, fun x c e => ?_, fun p hp => ?_, hok, I.len⟩
 . exact keep b o (neL b o e) hb (neC b o e hx) (I.base.keep b o e n hb hx) (I.base.free b o e n hx)
 . obtain ⟨sl, e1⟩ := I.base.slot b o e n hb hx
   obtain ⟨sl', e2⟩ := slot b _ (neL b o e) hb (neC b o e hx) e1 (I.base.free b o e n hx)
   exact ⟨sl', e2⟩
 . obtain ⟨o', e1⟩ := I.base.there b o e hx
   exact free b o' (neC b o e hx) e1 (I.base.free b o e n hx)
 . obtain ⟨o', e1⟩ := I.base.there b o e hx
   exact there b o' (neC b o e hx) e1
 . obtain ⟨m1, e1⟩ := I.base.tbls b ps e
   obtain ⟨m2, e2⟩ := tbls b _ e1
   exact ⟨m1 ++ m2, by rw [e2, Array.append_assoc]⟩
 . obtain ⟨m, hn, hl⟩ := I.loc
   refine ⟨m, ns m hn, fun i x v e1 e2 e3 => ?_⟩
   obtain ⟨u, r, l⟩ := hl i x v e1 e2 e3
   refine ⟨u, r, ?_⟩
   rcases l with l | ⟨k, c, e, z⟩
   . exact .inl l
   . exact .inr ⟨k, c, e, cellK x c e _ z⟩
 . obtain ⟨v, z⟩ := I.cell x c e
   exact ⟨v, cellK x c e v z⟩
 . obtain ⟨m, ⟨o, _, _, ho, _⟩, _⟩ := I.loc
   exact free _ o (fun z => (hch _ z).2.1 rfl) ho I.free
 . obtain ⟨v, o, ho, hd⟩ := I.cell x c e
   exact free c o (fun z => (hch c z).2.2.1 x c e rfl) ho (I.freeC x c e)
 obtain ⟨e, n, ne, nf, d⟩ := I.pin p hp
 have nch : p.1 ∉ ch := fun z => (hch p.1 z).2.2.2 p hp rfl
 exact ⟨keep p.1 p.2 ne nf nch e n, free p.1 p.2 nch e n, ne, nf, d⟩
theorem Inv.un {t' : Nat} (I : Inv X pins σ H s) (u : Un X.fs [] H H' s.heap h') (hok : HOk X.prog X.w H' h') : Inv X pins σ H' { s with heap := h', toks := t' } := by
 obtain ⟨m, ⟨o, es, ep, ho, r⟩, _⟩ := id I.loc
 obtain ⟨sl, hL⟩ := u.any ho I.free (by simp)
 exact I.step (g' := s.gens) (d' := s.drawn) (ch := []) (fun _ z => nomatch z) (fun b o _ hb _ e n => u.keep b o e n hb (by simp)) (fun b o _ hb _ e n => u.slot b o e n hb (by simp)) (fun b o _ e n => u.free b o e n (by simp)) (fun b o _ e => u.there b o e (by simp)) u.tups u.frzs u.tbls (fun m' hm => by
   obtain ⟨o', es', ep', ho', r'⟩ := hm
   rw [ho] at ho'; cases ho'
   exact ⟨_, es', ep', hL, r'⟩) hok I.bare
theorem Inv.call {g' : Array GenState} {t' : Nat} {d' : Drawn} {ch : List Addr} (I : Inv X pins σ H s) (u : Un (frs X.stack) ch H H' s.heap h') (hok : HOk X.prog X.w H' h') (hg : AllBare g')
   (hch : ∀ b ∈ ch, (b ∈ X.ex \/ X.s₀.heap.objs.size <= b) /\ b ≠ X.env.locals /\ (∀ x c, X.env.cells.lookup x = some c -> c ≠ b) /\ ∀ p ∈ X.pn ++ pins, p.1 ≠ b) :
   Inv X pins σ H' { s with heap := h', gens := g', drawn := d', toks := t' } := by
 obtain ⟨m, ⟨o, es, ep, ho, r⟩, _⟩ := id I.loc
 obtain ⟨sl, hL⟩ := u.any ho I.free fun z => (hch _ z).2.1 rfl
 exact I.step (ch := ch) hch (fun b o hL hb hc e n => u.keep b o e n (fun z => (List.mem_cons.mp (I.stkSub b z)).elim hL hb) hc) (fun b o _ _ hc e n => u.any e n hc) (fun b o hc e n => u.free b o e n hc) (fun b o hc e => u.there b o e hc) u.tups u.frzs u.tbls (fun m' hm => by
   obtain ⟨o', es', ep', ho', r'⟩ := hm
   rw [ho] at ho'; cases ho'
   exact ⟨_, es', ep', hL, r'⟩) hok hg
theorem Inv.turned {t' : Nat} {it : Addr} (I : Inv X pins σ H s) (k : ∀ b o, b ≠ it -> s.heap.get? b = some o -> h'.get? b = some o) (hn : H it = none) (hL : it ≠ X.env.locals)
   (h1 : it ∈ X.ex \/ X.s₀.heap.objs.size <= it) (h2 : ∀ x c, X.env.cells.lookup x = some c -> c ≠ it) (h3 : ∀ p ∈ X.pn ++ pins, p.1 ≠ it) : Inv X pins σ H { s with heap := h', toks := t' } := by
 have nit : ∀ b u, H b = some u -> b ≠ it := fun b u e z => by rw [z, hn] at e; cases e
 refine I.step (g' := s.gens) (d' := s.drawn) (ch := [it]) (fun b hb => ?_) (fun b o _ _ hc e _ => k b o (fun z => hc (by simp [z])) e) (fun b o _ _ hc e _ => ⟨o.slots, k b o (fun z => hc (by simp [z])) e⟩) (fun _ _ _ _ n => n)
   (fun b o hc e => ⟨o, k b o (fun z => hc (by simp [z])) e⟩) (fun _ _ e => e) (fun _ _ _ e => e) (fun b ps e => ⟨#[], by rw [e]; simp⟩) (fun m hm => ?_) (fun b u e => ?_) I.bare
 . have e : b = it := by simpa using hb
   subst e
   exact ⟨h1, hL, h2, h3⟩
 . obtain ⟨o, es, ep, ho, r⟩ := hm
   exact ⟨o, es, ep, k _ o (Ne.symm hL) ho, r⟩
 refine (I.hok b u e).stay (fun c v hc q => k c v ?_ q) (fun _ q => q) fun _ _ q => q
 rcases hc with z | z
 . rw [z]; exact nit b u e
 exact nit c _ z
theorem Inv.tok (I : Inv X pins σ H s) (t : Nat) : Inv X pins σ H { s with toks := t } := I.un (h' := s.heap) (t' := t) Un.refl I.hok
theorem Inv.kept {t' : Nat} (I : Inv X pins σ H s) (k : ∀ b u, s.heap.get? b = some u -> h'.get? b = some u) : Inv X pins σ H { s with heap := h', toks := t' } := I.un (Un.kept k) (I.hok.kept k)
theorem Inv.laid {a : Addr} {o : HO} {t' : Nat} (I : Inv X pins σ H s) (k : ∀ b u, s.heap.get? b = some u -> h'.get? b = some u) (hp : s.heap.objs.size <= a) (new : A0g X.prog X.w (upd H a o) h' a o) :
   Inv X pins σ (upd H a o) { s with heap := h', toks := t' } := I.un (Un.laid k hp (I.hok.fresh hp)) (I.hok.laid k hp new)
theorem Inv.write {x e : Addr} {o : HO} {t' : Nat} (I : Inv X pins σ H s) (mu : Mut (H x)) (he : e = x \/ H e = some (.own x)) (k : ∀ b u, b ≠ e -> s.heap.get? b = some u -> h'.get? b = some u) (heo : ∃ u, h'.get? e = some u)
   (new : A0g X.prog X.w (upd H x o) h' x o) : Inv X pins σ (upd H x o) { s with heap := h', toks := t' } := I.un (Un.write mu he k heo) (I.hok.write mu he k heo new)
theorem Inv.weak {σ' : List (Option V)} (I : Inv X pins σ H s) (hl : σ'.length = σ.length) (w : ∀ (i : Nat) v, σ'[i]? = some (some v) -> σ[i]? = some (some v)) : Inv X pins σ' H s :=
 ⟨I.ok, I.os, I.bare, I.base, let ⟨m, hn, hl'⟩ := I.loc; ⟨m, hn, fun i x v e1 e2 e3 => hl' i x v e1 (w i v e2) e3⟩, I.cell, I.free, I.freeC, I.pin, I.hok, hl.trans I.len⟩
theorem Inv.pins_of {pins' : List (Addr × Obj)} (I : Inv X pins σ H s) (h : ∀ p ∈ pins', s.heap.get? p.1 = some p.2 /\ H p.1 = none /\ p.1 ≠ X.env.locals /\ p.1 ∉ X.fs /\ ∀ v, p.2.data ≠ .cell v) : Inv X pins' σ H s :=
 ⟨I.ok, I.os, I.bare, I.base, I.loc, I.cell, I.free, I.freeC, fun p hp => (List.mem_append.mp hp).elim (fun z => I.pin p (List.mem_append_left _ z)) (h p), I.hok, I.len⟩
theorem J4p {N : List Str} (hN : N.Nodup) {i j : Nat} {x : Str} (a : N[i]? = some x) (b : N[j]? = some x) : i = j := by
 obtain ⟨h1, e1⟩ := List.getElem?_eq_some_iff.mp a
 obtain ⟨h2, e2⟩ := List.getElem?_eq_some_iff.mp b
 exact (List.getElem_inj hN).mp (e1.trans e2.symm)
theorem D9e {M : Model} {A : Around} {E : Value -> Shared -> Prop} {i : Nat} {x : Str} {v : V} {u : Value} {Q : Unit -> Shared -> Prop} (I : Inv X pins σ H s) (hN : X.N.Nodup) (hi : X.N[i]? = some x) (hx : Loc X.env.scope x) (r : V0 v u)
   (h : ∀ s', Inv X pins (σ.set i (some v)) H s' -> (∃ a, Heap.SameBut a s.heap s'.heap /\ (a = X.env.locals \/ X.env.cells.lookup x = some a)) -> Q () s') (hf : X.fn x = true \/ X.env.scope.names.lookup x = some .local := by first | exact .inl rfl | exact .inr rfl | assumption) : wpAny M A (storeName X.env x u) Q E s := by
 obtain ⟨m, hn, hl⟩ := id I.loc
 have hcls : (X.env.scope.kind == .class || (X.env.scope.kind == .module && X.env.locals != X.env.globals)) = false := by rw [I.ok.kind]; rfl
 have hiσ : i < σ.length := by rw [I.len]; exact (List.getElem?_eq_some_iff.mp hi).1
 have cne := I.cne
 have tracked : ∀ {a : Addr} {h' : Heap}, (∃ o, s.heap.get? a = some o /\ H a = none) -> Heap.SameBut a s.heap h' -> HOk X.prog X.w H h' := fun {a h'} ha hs b ob e => by
   obtain ⟨_, _, hfree⟩ := ha
   refine (I.hok b ob e).stay (fun c w' hc q => (hs.2 c ?_).trans q) (fun _ q => q) fun _ _ q => q
   rintro rfl
   rcases hc with rfl | hc
   . rw [hfree] at e; cases e
   . rw [hfree] at hc; cases hc
 rcases hx with hk | hk
 . refine wpAny_storeName_local hk hn (fun h' hn' hs => ?_) hcls
   obtain ⟨oL, _, _, hoL, _⟩ := id hn
   refine h _ ⟨I.ok, I.os, I.bare, ⟨fun b o e n hb hx => ?_, fun b o e n hb hx => ?_, I.base.free, fun b o e hx => ?_, I.base.tups, I.base.frzs, I.base.tbls⟩, ⟨_, hn', fun j y v' e1 e2 e3 => ?_⟩, fun y c e => ?_, I.free, I.freeC, fun p hp => ?_, tracked ⟨oL, hoL, I.free⟩ hs, by simpa using I.len⟩ ⟨_, hs, .inl rfl⟩
   . exact (hs.2 b (Nat.ne_of_lt (Nat.lt_of_lt_of_le (Heap.lt_size e) I.ok.above))).trans (I.base.keep b o e n hb hx)
   . obtain ⟨sl, e1⟩ := I.base.slot b o e n hb hx
     exact ⟨sl, (hs.2 b (Nat.ne_of_lt (Nat.lt_of_lt_of_le (Heap.lt_size e) I.ok.above))).trans e1⟩
   . obtain ⟨o', e1⟩ := I.base.there b o e hx
     exact ⟨o', (hs.2 b (Nat.ne_of_lt (Nat.lt_of_lt_of_le (Heap.lt_size e) I.ok.above))).trans e1⟩
   . by_cases hj : j = i
     . subst hj
       rw [hi] at e1; cases e1
       rw [List.getElem?_set_self hiσ] at e2
       cases e2
       exact ⟨u, r, .inl ⟨hk, by simp⟩⟩
     . rw [List.getElem?_set_ne (Ne.symm hj)] at e2
       obtain ⟨u', r', q⟩ := hl j y v' e1 e2 e3
       refine ⟨u', r', ?_⟩
       rcases q with ⟨k, e⟩ | ⟨k, c, e, z⟩
       . refine .inl ⟨k, ?_⟩
         have : y ≠ x := fun e => hj (J4p hN e1 (e ▸ hi))
         simp [this, e]
       . exact .inr ⟨k, c, e, z.sameBut hs (cne y c e)⟩
   . obtain ⟨w', z⟩ := I.cell y c e
     exact ⟨w', z.sameBut hs (cne y c e)⟩
   . obtain ⟨e, n, ne, nf, d⟩ := I.pin p hp
     exact ⟨(hs.2 p.1 ne).trans e, n, ne, nf, d⟩
 have hfn : X.fn x = true := by
   rcases hf with z | z
   . exact z
   . rw [z] at hk; cases hk
 obtain ⟨c, hc⟩ := I.ok.has x (.inl hk)
 obtain ⟨w', z⟩ := I.cell x c hc
 refine wpAny_storeName_cell I.ok.kind hk hc z (fun h' hc' hs => ?_)
 obtain ⟨oc, hoc, hocd⟩ := id z
 refine h { s with heap := h' } ⟨I.ok, I.os, I.bare, ⟨fun b o e n hb hx => ?_, fun b o e n hb hx => ?_, I.base.free, fun b o e hx => ?_, I.base.tups, I.base.frzs, I.base.tbls⟩, ⟨m, hn.sameBut hs (Ne.symm (cne x c hc)), fun j y v' e1 e2 e3 => ?_⟩, fun y c' e => ?_, I.free, I.freeC, fun p hp => ?_, tracked ⟨oc, hoc, I.freeC x c hc⟩ hs, by simpa using I.len⟩ ⟨c, hs, .inr hc⟩
 . exact (hs.2 b (Nat.ne_of_lt (Nat.lt_of_lt_of_le (Heap.lt_size e) (I.ok.cab x c hfn hc)))).trans (I.base.keep b o e n hb hx)
 . obtain ⟨sl, e1⟩ := I.base.slot b o e n hb hx
   exact ⟨sl, (hs.2 b (Nat.ne_of_lt (Nat.lt_of_lt_of_le (Heap.lt_size e) (I.ok.cab x c hfn hc)))).trans e1⟩
 . obtain ⟨o', e1⟩ := I.base.there b o e hx
   exact ⟨o', (hs.2 b (Nat.ne_of_lt (Nat.lt_of_lt_of_le (Heap.lt_size e) (I.ok.cab x c hfn hc)))).trans e1⟩
 . by_cases hj : j = i
   . subst hj
     rw [hi] at e1; cases e1
     rw [List.getElem?_set_self hiσ] at e2
     cases e2
     exact ⟨u, r, .inr ⟨.inl hk, c, hc, hc'⟩⟩
   . rw [List.getElem?_set_ne (Ne.symm hj)] at e2
     obtain ⟨u', r', q⟩ := hl j y v' e1 e2 e3
     refine ⟨u', r', ?_⟩
     rcases q with q | ⟨k, c', e, z'⟩
     . exact .inl q
     . refine .inr ⟨k, c', e, z'.sameBut hs ?_⟩
       rintro rfl
       exact hj (J4p hN e1 (I.ok.inj _ _ _ e hc ▸ hi))
 . by_cases hcc : c' = c
   . subst hcc; exact ⟨_, hc'⟩
   . obtain ⟨w2, z2⟩ := I.cell y c' e
     exact ⟨w2, z2.sameBut hs hcc⟩
 obtain ⟨e, n, ne, nf, d⟩ := I.pin p hp
 refine ⟨(hs.2 p.1 ?_).trans e, n, ne, nf, d⟩
 intro q
 rw [q, hoc] at e
 have q' : oc = p.2 := Option.some.inj e
 exact d w' (by rw [<- q']; exact hocd)
theorem B1j {M : Model} {A : Around} {E : Value -> Shared -> Prop} {i : Nat} {x : Str} {v : V} {u : Value} {Q : Unit -> Shared -> Prop} (I : Inv X pins σ H s) (hN : X.N.Nodup) (hi : X.N[i]? = some x) (hx : Loc X.env.scope x) (r : V0 v u)
   (h : ∀ s', Inv X pins (σ.set i (some v)) H s' -> Q () s') (hf : X.fn x = true \/ X.env.scope.names.lookup x = some .local := by first | exact .inl rfl | exact .inr rfl | assumption) : wpAny M A (storeName X.env x u) Q E s :=
 D9e I hN hi hx r (fun s' I' _ => h s' I') hf
theorem Inv.call' {s' : Shared} {ch : List Addr} (I : Inv X pins σ H s) (ho : s'.os = s.os) (u : Un (frs X.stack) ch H H' s.heap s'.heap) (hok : HOk X.prog X.w H' s'.heap) (hg : AllBare s'.gens)
   (hch : ∀ b ∈ ch, (b ∈ X.ex \/ X.s₀.heap.objs.size <= b) /\ b ≠ X.env.locals /\ (∀ x c, X.env.cells.lookup x = some c -> c ≠ b) /\ ∀ p ∈ X.pn ++ pins, p.1 ≠ b) : Inv X pins σ H' s' := by
 obtain ⟨h', g', d', t', o'⟩ := s'
 have e : o' = s.os := ho
 subst e
 exact I.call (g' := g') (t' := t') (d' := d') u hok hg hch
end
abbrev XK := Value -> Option Addr -> Hp -> Prop
abbrev St := List (Option V)
abbrev VK := V -> Hp -> Prop
abbrev TE := St -> Hp -> VK -> Prop
abbrev TT := St -> Hp -> (Bool -> Hp -> Prop) -> Prop
abbrev TA := St -> Hp -> (List V -> Hp -> Prop) -> Prop
structure J5n where
 nx : St -> Hp -> Prop
 rt : VK
 bk : St -> Hp -> Prop := fun _ _ => False
 ct : St -> Hp -> Prop := fun _ _ => False
abbrev TS := J5n -> St -> Hp -> Prop
def EP (X : Cx) (pins : List (Addr × Obj)) (σ : St) (Q : VK) (u : Value) (s' : Shared) : Prop := ∃ v H', Inv X pins σ H' s' /\ V0 v u /\ Q v H'
def TP (X : Cx) (pins : List (Addr × Obj)) (σ : St) (Q : Bool -> Hp -> Prop) (b : Bool) (s' : Shared) : Prop := ∃ H', Inv X pins σ H' s' /\ Q b H'
def AP (X : Cx) (pins : List (Addr × Obj)) (σ : St) (Q : List V -> Hp -> Prop) (us : List Value) (s' : Shared) : Prop := ∃ vs H', Inv X pins σ H' s' /\ U2 vs us /\ Q vs H'
def SP (X : Cx) (pins : List (Addr × Obj)) (D : J5n) (f : Flow) (s' : Shared) : Prop :=
 match f with
 | .next => ∃ σ' H', Inv X pins σ' H' s' /\ D.nx σ' H'
 | .brk => ∃ σ' H', Inv X pins σ' H' s' /\ D.bk σ' H'
 | .cont => ∃ σ' H', Inv X pins σ' H' s' /\ D.ct σ' H'
 | .ret u => ∃ v σ' H', Inv X pins σ' H' s' /\ V0 v u /\ D.rt v H'
def PE (X : Cx) (e : Expr) (t : TE) : Prop :=
 ∀ (pins : List (Addr × Obj)) (s : Shared) (σ : St) (H : Hp) (Q : VK), Inv X pins σ H s -> t σ H Q -> wpAny (model X.prog X.w) X.A (eval e X.env) (EP X pins σ Q) X.xe s
def PT (X : Cx) (e : Expr) (t : TT) : Prop :=
 ∀ (pins : List (Addr × Obj)) (s : Shared) (σ : St) (H : Hp) (Q : Bool -> Hp -> Prop), Inv X pins σ H s -> t σ H Q -> wpAny (model X.prog X.w) X.A (isTrue e X.env (eval e X.env)) (TP X pins σ Q) X.xe s
def PW (X : Cx) (e : Expr) (t : TT) : Prop :=
 ∀ (whole : Sem Value) (pins : List (Addr × Obj)) (s : Shared) (σ : St) (H : Hp) (Q : Bool -> Hp -> Prop), Inv X pins σ H s -> t σ H Q -> wpAny (model X.prog X.w) X.A (isTrue e X.env whole) (TP X pins σ Q) X.xe s
theorem PW.pt {X : Cx} {e : Expr} {t : TT} (h : PW X e t) : PT X e t := h _
def PA (X : Cx) (es : List Expr) (t : TA) : Prop :=
 ∀ (pos : Pos) (pins : List (Addr × Obj)) (s : Shared) (σ : St) (H : Hp) (Q : List V -> Hp -> Prop), Inv X pins σ H s -> t σ H Q -> wpAny (model X.prog X.w) X.A (spliced (backTo pos (starEach es X.env))) (AP X pins σ Q) X.xe s
def PS (X : Cx) (st : Stmt) (t : TS) : Prop :=
 ∀ (pins : List (Addr × Obj)) (s : Shared) (σ : St) (H : Hp) (D : J5n), Inv X pins σ H s -> t D σ H -> wpAny (model X.prog X.w) X.A (exec st X.env) (SP X pins D) X.xe s
def PSs (X : Cx) (st : List Stmt) (t : TS) : Prop :=
 ∀ (pins : List (Addr × Obj)) (s : Shared) (σ : St) (H : Hp) (D : J5n), Inv X pins σ H s -> t D σ H -> wpAny (model X.prog X.w) X.A (execs st X.env) (SP X pins D) X.xe s
theorem thn {α : Type} {t : Sem α} {Q Q' : α -> Shared -> Prop} {M : Model} {A : Around} {E : Value -> Shared -> Prop} {s : Shared} (h : wpAny M A t Q E s) (hQ : ∀ a s, Q a s -> Q' a s) : wpAny M A t Q' E s := wpAny_mono h hQ fun _ _ x => x
section
variable {X : Cx}
def tVar (i : Nat) : TE := fun σ H Q => ∃ v, σ[i]? = some (some v) /\ Q v H
def tC (v : V) : TE := fun _ H Q => Q v H
theorem A0tr {i : Nat} {x : Str} {pos : Pos} (hN : X.N[i]? = some x) (hv : Vis X.env.scope x) (hd : (x == ("__debug__" : Str)) = false := by decide) (hcd : (x == ("__classdict__" : Str)) = false := by decide) : PE X (.Name x pos) (tVar i) := by
 intro pins s σ H Q I h
 obtain ⟨v, e, h⟩ := h
 obtain ⟨m, hn, hl⟩ := I.loc
 obtain ⟨u, r, l⟩ := hl i x v hN e hv
 have fin : EP X pins σ Q u s := ⟨v, H, I, r, h⟩
 rcases l with ⟨hk, hm⟩ | ⟨hk, c, hc, hcell⟩
 . exact wpAny_Name (wpAny_loadName_local I.ok.kind hk hn hm fin) hd
 rcases hk with hk | hk
 . exact wpAny_Name (wpAny_loadName_cell I.ok.kind hk hc hcell fin) hd
 exact wpAny_Name (wpAny_loadName_free I.ok.kind hk hc hcell fin hcd) hd
theorem A1 {i j pos} : PE X (.Constant (.int i) j pos) (tC (.int i)) := fun _ _ _ H _ I h => wpAny_Constant_int ⟨.int i, H, I.tok _, ⟨_, rfl⟩, h⟩
theorem A3k {b j pos} : PE X (.Constant (.bool b) j pos) (tC (.bl b)) := fun _ _ _ H _ I h => Constant_bool ⟨.bl b, H, I, rfl, h⟩
theorem A0tw {j pos} : PE X (.Constant .none j pos) (tC .non) := fun _ _ _ H _ I h => Constant_none ⟨.non, H, I, rfl, h⟩
theorem D5 {x j pos} : PE X (.Constant (.str x) j pos) (tC (.str x)) := fun _ _ _ H _ I h => Calls.Constant_str ⟨.str x, H, I.tok _, ⟨_, rfl⟩, h⟩
def Gl (X : Cx) (x : Str) : Prop := X.env.kindOf x = some .globalImplicit
theorem A3n {E : Value -> Shared -> Prop} {pins : List (Addr × Obj)} {s : Shared} {σ : St} {H : Hp} {x : Str} {u : Value} {pos : Pos} {Q : Value -> Shared -> Prop} (I : Inv X pins σ H s) (hg : Gl X x) (hm : X.mg x = some u) (h : Q u s)
   (hd : (x == ("__debug__" : Str)) = false := by decide) : wpAny (model X.prog X.w) X.A (eval (.Name x pos) X.env) Q E s :=
 Calls.Name_function_global I.ok.kind hg (Calls.loadGlobal_global (by rw [I.ok.glob]; exact I.mod.glob.keeps I.bk) hm h) hd
theorem G2f {E : Value -> Shared -> Prop} {pins : List (Addr × Obj)} {s : Shared} {σ : St} {H : Hp} {x : Str} {u : Value} {pos : Pos} {Q : Value -> Shared -> Prop} (I : Inv X pins σ H s) (hg : Gl X x) (hm : X.mg x = none) (hv : bootBuiltins x = some u) (h : Q u s)
   (hn : x ≠ "__name__" := by decide) (hd : (x == ("__debug__" : Str)) = false := by decide) : wpAny (model X.prog X.w) X.A (eval (.Name x pos) X.env) Q E s := by
 obtain ⟨mb, h1, h2⟩ := I.mod.blt
 exact Calls.Name_function_global I.ok.kind hg (Calls.loadGlobal_builtin (by rw [I.ok.glob]; exact I.mod.glob.keeps I.bk) hm (by rw [I.ok.blt]; exact h1.keeps I.bk) ((h2 x hn).trans hv) h) hd
theorem A0jb {x : Str} {v : V} {u : Value} {pos : Pos} (hg : Gl X x) (hm : X.mg x = some u) (r : V0 v u) (hd : (x == ("__debug__" : Str)) = false := by decide) : PE X (.Name x pos) (tC v) :=
 fun _ _ _ H _ I h => A3n I hg hm ⟨v, H, I, r, h⟩ hd
theorem A0ha {x : Str} {v : V} {u : Value} {pos : Pos} (hg : Gl X x) (hm : X.mg x = none) (hv : bootBuiltins x = some u) (r : V0 v u) (hn : x ≠ "__name__" := by decide) (hd : (x == ("__debug__" : Str)) = false := by decide) : PE X (.Name x pos) (tC v) :=
 fun _ _ _ H _ I h => G2f I hg hm hv ⟨v, H, I, r, h⟩ hn hd
variable {a b : Expr} {ta tb : TE} {pos : Pos}
def tB (t : TE) : TT := fun σ H Q => t σ H fun x H1 => ∃ c, x = .bl c /\ Q c H1
theorem Y2 {e : Expr} {t : TE} (h : PE X e t) (he : ∀ whole, isTrue e X.env whole = (do let v <- whole; standAt e.pos; holding [v] (truthy v)) := by intro _; rfl) : PT X e (tB t) := by
 intro pins s σ H Q I hw
 refine isTrue_plain (thn (h pins s σ H _ I hw) fun v s1 ⟨x, H1, I1, r1, q1⟩ => ?_) (he _)
 obtain ⟨d, rfl, q⟩ := q1
 cases r1
 exact wpAny_truthy_bool ⟨H1, I1, q⟩
variable {tA tB' : TT} {rest : List Expr}
def tAnd (t u : TT) : TT := fun σ H Q => t σ H fun c H1 => if c = true then u σ H1 Q else Q false H1
def tOr (t u : TT) : TT := fun σ H Q => t σ H fun c H1 => if c = true then Q true H1 else u σ H1 Q
def tNot (t : TT) : TT := fun σ H Q => t σ H fun c H1 => Q (!c) H1
theorem B5p (ha : PT X a tA) : PW X (.BoolOp .And [a] pos) tA := by
 intro wh pins s σ H Q I h
 refine isTrue_and (thn (ha pins s σ H Q I h) fun c s1 e => ?_)
 cases c with
 | true => exact isTrue_and_nil e
 | false => exact e
theorem C1v (ha : PT X a tA) : PW X (.BoolOp .Or [a] pos) tA := by
 intro wh pins s σ H Q I h
 refine isTrue_or (thn (ha pins s σ H Q I h) fun c s1 e => ?_)
 cases c with
 | false => exact isTrue_or_nil e
 | true => exact e
theorem C1t (ha : PT X a tA) (hb : PW X (.BoolOp .And (b :: rest) pos) tB') : PW X (.BoolOp .And (a :: b :: rest) pos) (tAnd tA tB') := by
 intro wh pins s σ H Q I h
 refine isTrue_and (thn (ha pins s σ H _ I h) fun c s1 ⟨H1, I1, q1⟩ => ?_)
 cases c with
 | true => exact hb wh pins s1 σ H1 Q I1 q1
 | false => exact ⟨H1, I1, q1⟩
theorem D8x (ha : PT X a tA) (hb : PW X (.BoolOp .Or (b :: rest) pos) tB') : PW X (.BoolOp .Or (a :: b :: rest) pos) (tOr tA tB') := by
 intro wh pins s σ H Q I h
 refine isTrue_or (thn (ha pins s σ H _ I h) fun c s1 ⟨H1, I1, q1⟩ => ?_)
 cases c with
 | true => exact ⟨H1, I1, q1⟩
 | false => exact hb wh pins s1 σ H1 Q I1 q1
theorem A4k (ha : PT X a tA) : PT X (.UnaryOp .Not a pos) (tNot tA) := by
 intro pins s σ H Q I h
 exact isTrue_not (ha pins s σ H (fun c H1 => Q (!c) H1) I h)
def A0xz (ta tb : TE) : TE := fun σ H Q => ta σ H fun x H1 => ∃ c, x = .bl c /\ if c = true then tb σ H1 Q else Q (.bl false) H1
def tOrV (ta tb : TE) : TE := fun σ H Q => ta σ H fun x H1 => ∃ c, x = .bl c /\ if c = true then Q (.bl true) H1 else tb σ H1 Q
theorem A6f {op} {t : TE} (h : PE X a t) : PE X (.BoolOp op [a] pos) t := fun pins s σ H Q I hw => BoolOp_one (h pins s σ H Q I hw)
theorem B1t (ha : PE X a ta) (hb : PE X (.BoolOp .And (b :: rest) pos) tb) : PE X (.BoolOp .And (a :: b :: rest) pos) (A0xz ta tb) := by
 intro pins s σ H Q I h
 refine BoolOp_and (thn (ha pins s σ H _ I h) fun v s1 ⟨x, H1, I1, r1, q1⟩ => ?_)
 obtain ⟨c, rfl, q1⟩ := q1
 cases r1
 refine wpAny_truthy_bool ?_
 cases c with
 | true => exact hb pins s1 σ H1 Q I1 q1
 | false => exact ⟨.bl false, H1, I1, rfl, q1⟩
theorem V4d (ha : PE X a ta) (hb : PE X (.BoolOp .Or (b :: rest) pos) tb) : PE X (.BoolOp .Or (a :: b :: rest) pos) (tOrV ta tb) := by
 intro pins s σ H Q I h
 refine BoolOp_or (thn (ha pins s σ H _ I h) fun v s1 ⟨x, H1, I1, r1, q1⟩ => ?_)
 obtain ⟨c, rfl, q1⟩ := q1
 cases r1
 refine wpAny_truthy_bool ?_
 cases c with
 | false => exact hb pins s1 σ H1 Q I1 q1
 | true => exact ⟨.bl true, H1, I1, rfl, q1⟩
def tIf (t : TT) (ta tb : TE) : TE := fun σ H Q => t σ H fun c H1 => if c = true then ta σ H1 Q else tb σ H1 Q
theorem V5 {c : Expr} (hc : PT X c tA) (ha : PE X a ta) (hb : PE X b tb) : PE X (.IfExp c a b pos) (tIf tA ta tb) := by
 intro pins s σ H Q I h
 refine wpAny_IfExp (thn (hc pins s σ H _ I h) fun d s1 ⟨H1, I1, q1⟩ => ?_)
 cases d with
 | true => exact ha pins s1 σ H1 Q I1 q1
 | false => exact hb pins s1 σ H1 Q I1 q1
end
def SqL (K : PySem.W.Frag) (H : Hp) (a : Addr) (xs : List V) : Prop :=
 Rd H a (.lst xs) \/
   ∃ (o : Obj) (its : Array Value) (n : Nat), K.lookup a = some o /\ o.cls = .type "list" /\ o.dict = none /\ o.data = .seq its n /\ its.size <= sizeLine /\ U2 xs its.toList
def SqT (K : PySem.W.Frag) (H : Hp) (a : Addr) (xs : List V) : Prop :=
 Rd H a (.tup xs) \/
   ∃ (o : Obj) (its : Array Value) (n : Nat), K.lookup a = some o /\ o.cls = .type "tuple" /\ o.data = .seq its n /\ its.size <= sizeLine /\ U2 xs its.toList
def absV : Value -> Option V
 | .none => some .non
 | .bool b => some (.bl b)
 | .int i _ => some (.int i)
 | .str x _ => some (.str x)
 | .bytes b _ => some (.byt b)
 | .float b _ => some (.flt b)
 | .ref a => some (.ref a)
 | .type n => some (.ty n)
 | _ => none
theorem V0.abs {x : V} {u : Value} (r : V0 x u) : absV u = some x := by
 cases x with
 | non => cases r; rfl
 | bl _ => cases r; rfl
 | int _ => obtain ⟨t, rfl⟩ := r; rfl
 | str _ => obtain ⟨t, rfl⟩ := r; rfl
 | byt _ => obtain ⟨t, rfl⟩ := r; rfl
 | flt _ => obtain ⟨t, rfl⟩ := r; rfl
 | ref _ => cases r; rfl
 | ty _ => cases r; rfl
theorem V0.inj {x y : V} {u : Value} (r : V0 x u) (q : V0 y u) : x = y := Option.some.inj (r.abs.symm.trans q.abs)
theorem U2.inj : ∀ {xs ys : List V} {us : List Value}, U2 xs us -> U2 ys us -> xs = ys
 | _, _, _, .nil, .nil => rfl
 | _, _, _, .cons r t, .cons r' t' => by rw [r.inj r', U2.inj t t']
section
variable {X : Cx} {pins : List (Addr × Obj)} {σ : St} {H : Hp} {s : Shared} {a : Addr} {xs ys : List V}
theorem SqL.of {K : PySem.W.Frag} (h : H a = some (.lst xs)) : SqL K H a xs := .inl (.inl h)
theorem SqT.of {K : PySem.W.Frag} (h : H a = some (.tup xs)) : SqT K H a xs := .inl (.inl h)
theorem Inv.list (I : Inv X pins σ H s) (h : SqL X.K H a xs) : ∃ its : List Value, U2 xs its /\ PlainL s.heap a its.toArray /\ xs.length <= sizeLine := by
 rcases h with h | ⟨o, its, n, hk, hc, hd, hs, hz, r⟩
 . obtain ⟨z, its, n, r, e⟩ := h.ok I.hok
   exact ⟨its, r, ⟨_, n, e, rfl, rfl, rfl⟩, z⟩
 refine ⟨its.toList, r, ⟨o, n, I.kIn a o hk, hc, hd, by simpa using hs⟩, ?_⟩
 have e := r.length
 simp only [Array.length_toList] at e
 omega
theorem Inv.tuple (I : Inv X pins σ H s) (h : SqT X.K H a xs) : ∃ its : List Value, U2 xs its /\ IsTup s.heap a its.toArray /\ xs.length <= sizeLine := by
 rcases h with h | ⟨o, its, n, hk, hc, hs, hz, r⟩
 . obtain ⟨z, its, r, p⟩ := h.ok I.hok
   exact ⟨its, r, p, z⟩
 refine ⟨its.toList, r, ⟨o, I.kIn a o hk, hc, n, by simpa using hs⟩, ?_⟩
 have e := r.length
 simp only [Array.length_toList] at e
 omega
theorem Inv.list_inj (I : Inv X pins σ H s) (h : SqL X.K H a xs) (h' : SqL X.K H a ys) : xs = ys := by
 obtain ⟨its, r, ⟨o, n, e, _, _, d⟩, _⟩ := I.list h
 obtain ⟨its', r', ⟨o', n', e', _, _, d'⟩, _⟩ := I.list h'
 rw [e] at e'; cases e'
 rw [d] at d'
 injection d' with d1 _
 have : its = its' := by simpa using congrArg Array.toList d1
 subst this
 exact r.inj r'
theorem Inv.tuple_inj (I : Inv X pins σ H s) (h : SqT X.K H a xs) (h' : SqT X.K H a ys) : xs = ys := by
 obtain ⟨its, r, ⟨o, e, _, n, d⟩, _⟩ := I.tuple h
 obtain ⟨its', r', ⟨o', e', _, n', d'⟩, _⟩ := I.tuple h'
 rw [e] at e'; cases e'
 rw [d] at d'
 injection d' with d1 _
 have : its = its' := by simpa using congrArg Array.toList d1
 subst this
 exact r.inj r'
end
abbrev Cx.wish (X : Cx) (E : Value -> Shared -> Prop) : Cx := { X with xe := E }
abbrev Cx.nox (X : Cx) : Cx := X.wish fun _ _ => False
theorem Cx.Ok.wish {X : Cx} (ok : X.Ok) (E : Value -> Shared -> Prop) : (X.wish E).Ok :=
 ⟨ok.mod, ok.kind, ok.glob, ok.blt, ok.above, ok.inj, ok.has, ok.cab, ok.hd, ok.frames, ok.stk, ok.exf, ok.bs, ok.bsz, ok.noex, ok.exfs, ok.funs, ok.frf⟩
theorem Cx.Ok.unwish {X : Cx} {E : Value -> Shared -> Prop} (ok : (X.wish E).Ok) : X.Ok :=
 ⟨ok.mod, ok.kind, ok.glob, ok.blt, ok.above, ok.inj, ok.has, ok.cab, ok.hd, ok.frames, ok.stk, ok.exf, ok.bs, ok.bsz, ok.noex, ok.exfs, ok.funs, ok.frf⟩
section
variable {X : Cx} {pins : List (Addr × Obj)} {σ : St} {H : Hp} {s : Shared} {E : Value -> Shared -> Prop}
theorem Inv.wish (I : Inv X pins σ H s) (E : Value -> Shared -> Prop) : Inv (X.wish E) pins σ H s := ⟨I.ok.wish E, I.os, I.bare, I.base, I.loc, I.cell, I.free, I.freeC, I.pin, I.hok, I.len⟩
theorem Inv.unwish (I : Inv (X.wish E) pins σ H s) : Inv X pins σ H s := ⟨I.ok.unwish, I.os, I.bare, I.base, I.loc, I.cell, I.free, I.freeC, I.pin, I.hok, I.len⟩
theorem SP.unwish {D : J5n} {f : Flow} {s' : Shared} (h : SP (X.wish E) pins D f s') : SP X pins D f s' := by
 cases f with
 | next => obtain ⟨σ', H', I, q⟩ := h; exact ⟨σ', H', I.unwish, q⟩
 | brk => obtain ⟨σ', H', I, q⟩ := h; exact ⟨σ', H', I.unwish, q⟩
 | cont => obtain ⟨σ', H', I, q⟩ := h; exact ⟨σ', H', I.unwish, q⟩
 | ret u => obtain ⟨v, σ', H', I, r, q⟩ := h; exact ⟨v, σ', H', I.unwish, r, q⟩
theorem PSs.nox {st : List Stmt} {t : TS} (h : PSs X.nox st t) : PSs X st t := fun pins s σ H D I hw =>
 wpAny_mono (h pins s σ H D (I.wish _) hw) (fun _ _ q => q.unwish) fun _ _ z => False.elim z
end
section
variable {X : Cx} {st : Stmt} {rest : List Stmt} {t u : TS} {e : Expr} {te : TE} {pos : Pos}
def A0ym : TS := fun D σ H => D.nx σ H
def tSeq (t u : TS) : TS := fun D σ H => t { D with nx := u D } σ H
theorem D0 : PSs X [] A0ym := fun _ _ σ H _ I h => wpAny_execs_nil ⟨σ, H, I, h⟩
theorem A3 (h1 : PS X st t) (h2 : PSs X rest u) : PSs X (st :: rest) (tSeq t u) := by
 intro pins s σ H D I h
 refine wpAny_execs_cons (thn (h1 pins s σ H { D with nx := u D } I h) fun f s1 q => ?_)
 cases f with
 | next =>
   obtain ⟨σ', H', I', q⟩ := q
   exact h2 pins s1 σ' H' D I' q
 | ret v => exact q
 | brk => exact q
 | cont => exact q
theorem A6 (h1 : PS X st t) : PSs X [st] t := by
 intro pins s σ H D I h
 refine wpAny_execs_cons (thn (h1 pins s σ H D I h) fun f s1 q => ?_)
 cases f with
 | next => exact wpAny_execs_nil q
 | ret v => exact q
 | brk => exact q
 | cont => exact q
theorem Inv.quiet {pins : List (Addr × Obj)} {σ : St} {H : Hp} {s : Shared} (I : Inv X pins σ H s) : interactive X.env = false := by simp [interactive, I.ok.kind]
def A0zs (te : TE) : TS := fun D σ H => te σ H fun _ H1 => D.nx σ H1
theorem V7 (he : PE X e te) (hs : swapsWith e none pos.line X.env = pure false := by rfl) : PS X (.Expr e pos) (A0zs te) := by
 intro pins s σ H D I h
 exact wpAny_Expr_any (thn (he pins s σ H _ I h) fun v s1 ⟨x, H1, I1, r1, q1⟩ => ⟨σ, H1, I1, q1⟩) I.quiet hs
def tRet (te : TE) : TS := fun D σ H => te σ H D.rt
theorem B0 (he : PE X e te) : PS X (.Return (some e) pos) (tRet te) := by
 intro pins s σ H D I h
 exact wpAny_Return_some (thn (he pins s σ H _ I h) fun v s1 ⟨x, H1, I1, r1, q1⟩ => ⟨x, σ, H1, I1, r1, q1⟩)
def tIfS (c : TT) (t u : TS) : TS := fun D σ H => c σ H fun b H1 => if b = true then t D σ H1 else u D σ H1
theorem G4 {c : Expr} {a b : List Stmt} {tc : TT} (hc : PT X c tc) (ha : PSs X a t) (hb : PSs X b u) : PS X (.If c a b pos) (tIfS tc t u) := by
 intro pins s σ H D I h
 refine wpAny_If (thn (hc pins s σ H _ I h) fun d s1 ⟨H1, I1, q1⟩ => ?_)
 cases d with
 | true => exact ha pins s1 σ H1 D I1 q1
 | false => exact hb pins s1 σ H1 D I1 q1
end
abbrev TG := V -> St -> Hp -> (St -> Hp -> Prop) -> Prop
abbrev TGs := List V -> St -> Hp -> (St -> Hp -> Prop) -> Prop
def PG (X : Cx) (target : Expr) (t : TG) : Prop :=
 ∀ (pins : List (Addr × Obj)) (s : Shared) (σ : St) (H : Hp) (v : V) (u : Value) (Q : St -> Hp -> Prop), Inv X pins σ H s -> V0 v u -> t v σ H Q ->
   wpAny (model X.prog X.w) X.A (assign target X.env u) (fun _ s' => ∃ σ' H', Inv X pins σ' H' s' /\ Q σ' H') X.xe s
def PGs (X : Cx) (ts : List Expr) (t : TGs) : Prop :=
 ∀ (pins : List (Addr × Obj)) (s : Shared) (σ : St) (H : Hp) (vs : List V) (us : List Value) (Q : St -> Hp -> Prop), Inv X pins σ H s -> U2 vs us -> t vs σ H Q ->
   wpAny (model X.prog X.w) X.A (assignInOrder ((assignEach ts X.env).map (·.2)) us) (fun _ s' => ∃ σ' H', Inv X pins σ' H' s' /\ Q σ' H') X.xe s
abbrev TSet := V -> V -> V -> Hp -> (Hp -> Prop) -> Prop
def PSet (X : Cx) (t : TSet) : Prop :=
 ∀ (pins : List (Addr × Obj)) (s : Shared) (σ : St) (H : Hp) (o i v : V) (ov iv u : Value) (Q : Hp -> Prop), Inv X pins σ H s -> V0 o ov -> V0 i iv -> V0 v u -> t o i v H Q ->
   wpAny (model X.prog X.w) X.A (setItem ov iv u) (fun _ s' => ∃ H', Inv X pins σ H' s' /\ Q H') X.xe s
abbrev TIp := V -> V -> Hp -> VK -> Prop
def PIp (X : Cx) (op : Operator) (t : TIp) : Prop :=
 ∀ (pins : List (Addr × Obj)) (s : Shared) (σ : St) (H : Hp) (x y : V) (v u : Value) (Q : VK), Inv X pins σ H s -> V0 x v -> V0 y u -> t x y H Q ->
   wpAny (model X.prog X.w) X.A (inplaceOp op v u) (EP X pins σ Q) X.xe s
section
variable {X : Cx} {pos : Pos}
def V3x (i : Nat) : TG := fun v σ H Q => Q (σ.set i (some v)) H
theorem J7 {i : Nat} {x : Str} (hN : X.N.Nodup) (hi : X.N[i]? = some x) (hx : Loc X.env.scope x) (hf : X.fn x = true \/ X.env.scope.names.lookup x = some .local := by first | exact .inl rfl | exact .inr rfl | assumption) : PG X (.Name x pos) (V3x i) := by
 intro pins s σ H v u Q I r h
 exact wpAny_assign_Name (B1j I hN hi hx r (fun s' I' => ⟨_, H, I', h⟩) hf)
def gNil : TGs := fun vs σ H Q => vs = [] /\ Q σ H
def A0xs (t : TG) (u : TGs) : TGs := fun vs σ H Q => ∃ v r, vs = v :: r /\ t v σ H fun σ' H' => u r σ' H' Q
theorem A7u : PGs X [] gNil := by
 intro pins s σ H vs us Q I r h
 obtain ⟨e, h⟩ := h
 subst e
 cases r
 exact assignInOrder_nil ⟨σ, H, I, h⟩
theorem U9 {e : Expr} {es : List Expr} {t : TG} {u : TGs} (h1 : PG X e t) (h2 : PGs X es u)
   (hs : (assignEach (e :: es) X.env).map (·.2) = assign e X.env :: (assignEach es X.env).map (·.2) := by rfl) : PGs X (e :: es) (A0xs t u) := by
 intro pins s σ H vs us Q I r h
 obtain ⟨v, vr, e1, h⟩ := h
 subst e1
 cases r with
 | cons r rr =>
   rw [hs]
   refine assignInOrder_cons (thn (h1 pins s σ H _ _ _ I r h) fun _ s1 ⟨σ1, H1, I1, q1⟩ => ?_)
   exact h2 pins s1 σ1 H1 _ _ Q I1 rr q1
def gTup (K : PySem.W.Frag) (n : Nat) (t : TGs) : TG := fun v σ H Q => ∃ a xs, v = .ref a /\ SqT K H a xs /\ xs.length = n /\ t xs σ H Q
theorem B7g {es : List Expr} {k : Nat} {t : TGs} {n : Nat} (hc : X.calm = true) (h : PGs X es t)
   (hn : (assignEach es X.env).length = n := by rfl) (hst : (assignEach es X.env).findIdx? (·.1) = none := by rfl) : PG X (.Tuple es k pos) (gTup X.K n t) := by
 intro pins s σ H v u Q I r hw
 obtain ⟨a, xs, e1, hq, hl, hw⟩ := hw
 subst e1
 cases r
 obtain ⟨its, rv, ht, hz⟩ := I.tuple hq
 refine assign_Tuple_tuple (I.ok.hd hc) ht (by simp [hn, <- hl, rv.length]) hst fun h' hx => ?_
 have I1 : Inv X pins σ H { s with heap := h' } := I.kept (t' := s.toks) fun b o e => hx b o (Nat.ne_of_lt (Heap.lt_size e)) e
 exact h pins _ σ H xs _ Q I1 (by simpa using rv) hw
def gSub (to ti : TE) (t : TSet) : TG := fun v σ H Q => to σ H fun o H1 => ti σ H1 fun i H2 => t o i v H2 fun H3 => Q σ H3
theorem U1q {o i : Expr} {to ti : TE} {t : TSet} (ho : PE X o to) (hi : PE X i ti) (hs : PSet X t)
   (ha : ∀ v, assign (.Subscript o i pos) X.env v = (do
     let ov <- holding [v] (eval o X.env)
     let iv <- holding [v, ov] (eval i X.env)
     standAt pos
     holding [v, ov, iv] (setItem ov iv v)
     release [v, ov, iv] []) := by intro _; rfl) : PG X (.Subscript o i pos) (gSub to ti t) := by
 intro pins s σ H v u Q I r h
 rw [ha]
 refine wpAny_bind (wpAny_holding (thn (ho pins s σ H _ I h) fun ov s1 ⟨x, H1, I1, r1, q1⟩ => ?_))
 refine wpAny_bind (wpAny_holding (thn (hi pins s1 σ H1 _ I1 q1) fun iv s2 ⟨y, H2, I2, r2, q2⟩ => ?_))
 refine wpAny_bind (wpAny_standAt (wpAny_bind (wpAny_holding (thn (hs pins s2 σ H2 x y v ov iv u _ I2 r1 r2 r q2) fun _ s3 ⟨H3, I3, q3⟩ => ?_))))
 exact wpAny_release ⟨σ, H3, I3, q3⟩
def tAsg (te : TE) (g : TG) : TS := fun D σ H => te σ H fun x H1 => g x σ H1 D.nx
theorem A6e {tg e : Expr} {te : TE} {g : TG} (he : PE X e te) (hg : PG X tg g) (hs : swapsWithSole [tg] e pos.line X.env = pure false := by rfl) (hw : swappedStores [tg] e X.env = pure none := by rfl)
   (h1 : (assignEach [tg] X.env).map (·.2) = [assign tg X.env] := by rfl) : PS X (.Assign [tg] e pos) (tAsg te g) := by
 intro pins s σ H D I h
 refine wpAny_Assign_stores (thn (he pins s σ H _ I h) fun v s1 ⟨x, H1, I1, r1, q1⟩ => ?_) hs hw
 rw [h1]
 exact thn (hg pins s1 σ H1 x v _ I1 r1 q1) fun _ s2 q => q
theorem D3 {i : Nat} {x : Str} {e : Expr} {te : TE} {pos' : Pos} (hN : X.N.Nodup) (hi : X.N[i]? = some x) (hx : Loc X.env.scope x) (he : PE X e te) (hs : swapsWith e (some (.Name x pos')) pos.line X.env = pure false := by rfl) (hf : X.fn x = true \/ X.env.scope.names.lookup x = some .local := by first | exact .inl rfl | exact .inr rfl | assumption) :
   PS X (.Assign [.Name x pos'] e pos) (tAsg te (V3x i)) := by
 intro pins s σ H D I h
 refine wpAny_Assign_Name (thn (he pins s σ H _ I h) fun v s1 ⟨y, H1, I1, r1, q1⟩ => ?_) hs
 exact B1j I1 hN hi hx r1 (fun s2 I2 => ⟨_, H1, I2, q1⟩) hf
def tAug (i : Nat) (te : TE) (ti : TIp) : TS := fun D σ H => ∃ x, σ[i]? = some (some x) /\ te σ H fun y H1 => ti x y H1 fun z H2 => D.nx (σ.set i (some z)) H2
theorem A0rk {i : Nat} {x : Str} {e : Expr} {te : TE} {op : Operator} {ti : TIp} {pos' : Pos} (hN : X.N.Nodup) (hi : X.N[i]? = some x) (hx : Loc X.env.scope x) (he : PE X e te) (ho : PIp X op ti) (hf : X.fn x = true \/ X.env.scope.names.lookup x = some .local := by first | exact .inl rfl | exact .inr rfl | assumption) :
   PS X (.AugAssign (.Name x pos') op e pos) (tAug i te ti) := by
 intro pins s σ H D I h
 obtain ⟨v, e1, h⟩ := h
 obtain ⟨m, hn, hl⟩ := I.loc
 have vis : Vis X.env.scope x := by rcases hx with k | k; exact .inl k; exact .inr (.inl k)
 obtain ⟨u, r, l⟩ := hl i x v hi e1 vis
 refine wpAny_AugAssign_Name ?_
 have go : wpAny (model X.prog X.w) X.A (eval e X.env) (fun w s₂ => wpAny (model X.prog X.w) X.A (inplaceOp op u w) (fun r s₃ => wpAny (model X.prog X.w) X.A (storeName X.env x r) (fun _ => SP X pins D .next) X.xe s₃) X.xe s₂) X.xe s := by
   refine thn (he pins s σ H _ I h) fun w s1 ⟨y, H1, I1, r1, q1⟩ => ?_
   refine thn (ho pins s1 σ H1 v y u w _ I1 r r1 q1) fun z s2 ⟨zv, H2, I2, r2, q2⟩ => ?_
   exact B1j I2 hN hi hx r2 (fun s3 I3 => ⟨_, H2, I3, q2⟩) hf
 rcases l with ⟨hk, hm⟩ | ⟨hk, c, hc, hcell⟩
 . exact wpAny_loadName_local I.ok.kind hk hn hm go
 rcases hk with hk | hk
 . exact wpAny_loadName_cell I.ok.kind hk hc hcell go
 rcases hx with k | k
 . have : X.env.scope.names.lookup x = some .free := hk
   rw [k] at this; cases this
 have : X.env.scope.names.lookup x = some .free := hk
 rw [k] at this; cases this
def ipI (f : Int -> Int -> Int) : TIp := fun x y H Q => ∃ i j, x = .int i /\ y = .int j /\ Q (.int (f i j)) H
theorem A0sb : PIp X .Add (ipI fun i j => i + j) := by
 intro pins s σ H x y v u Q I r1 r2 h
 obtain ⟨i, j, e1, e2, q⟩ := h
 subst e1; subst e2
 obtain ⟨t, rfl⟩ := r1
 obtain ⟨t', rfl⟩ := r2
 exact iadd_int ⟨.int _, H, I.tok _, ⟨_, rfl⟩, q⟩
end
section
variable {X : Cx} {pos : Pos}
def Y8b (c : TT) (tb : TS) : TS := fun D σ H => ∃ W : Nat -> St -> Hp -> Prop, (∃ m, W m σ H) /\ ∀ m σ H, W m σ H ->
 c σ H fun b H1 => if b = true then ∃ N : St -> Hp -> Prop, (∀ σ' H', N σ' H' -> ∃ m', m' < m /\ W m' σ' H') /\ tb { D with nx := N, ct := N, bk := D.nx } σ H1 else D.nx σ H1
theorem A2q {c : Expr} {body : List Stmt} {tc : TT} {tb : TS} (hp : PassesOwn (model X.prog X.w) X.A X.env X.xe) (hc : PT X c tc) (hb : PSs X body tb) : PS X (.While c body [] pos) (Y8b tc tb) := by
 intro pins s σ H D I h
 obtain ⟨W, ⟨m0, w0⟩, turn⟩ := h
 refine wpAny_While (codeAny_whileLoop (fun n s' => ∃ σ' H', Inv X pins σ' H' s' /\ W n σ' H') ?_ m0 ⟨σ, H, I, w0⟩)
 rintro n s1 ⟨σ1, H1, I1, w1⟩
 refine wpAny_passesOwn hp (thn (hc pins s1 σ1 H1 _ I1 (turn n σ1 H1 w1)) fun b s2 ⟨H2, I2, q2⟩ => ?_)
 cases b with
 | true =>
   obtain ⟨N, hN, q2⟩ := q2
   rw [if_pos rfl]
   refine wpAny_passesOwn hp (thn (hb pins s2 σ1 H2 _ I2 q2) fun f s3 q3 => ?_)
   cases f with
   | next =>
     obtain ⟨σ3, H3, I3, n3⟩ := q3
     obtain ⟨m', hm, w3⟩ := hN σ3 H3 n3
     exact ⟨m', hm, σ3, H3, I3, w3⟩
   | cont =>
     obtain ⟨σ3, H3, I3, n3⟩ := q3
     obtain ⟨m', hm, w3⟩ := hN σ3 H3 n3
     exact ⟨m', hm, σ3, H3, I3, w3⟩
   | brk => exact q3
   | ret v => exact q3
 | false =>
   rw [if_neg Bool.false_ne_true]
   exact wpAny_execs_nil ⟨σ1, H2, I2, q2⟩
end
structure It where
 go : Nat -> Hp -> Prop
 yld : Nat -> Hp -> V -> Hp -> Prop
 stop : Nat -> Hp -> Prop
def A5f (X : Cx) (pins : List (Addr × Obj)) (H : Hp) (b : Addr) : Prop :=
 H b = none /\ b ≠ X.env.locals /\ b ∉ X.fs /\ (b ∈ X.ex \/ X.s₀.heap.objs.size <= b) /\ (∀ x c, X.env.cells.lookup x = some c -> c ≠ b) /\ ∀ p ∈ X.pn ++ pins, p.1 ≠ b
theorem Inv.fpOk {X : Cx} {pins : List (Addr × Obj)} {σ : St} {H H' : Hp} {s : Shared} {b : Addr} (I : Inv X pins σ H s) (hb : s.heap.objs.size <= b) (hn : H' b = none) : A5f X pins H' b := by
 refine ⟨hn, Nat.ne_of_gt (Nat.lt_of_lt_of_le I.lt hb), I.nofs hb, .inr (Nat.le_trans I.sz hb), fun x c e z => ?_, fun p hp z => ?_⟩
 . obtain ⟨v, q⟩ := I.cell x c e
   exact absurd (Nat.lt_of_lt_of_le q.lt (by rw [z]; exact hb)) (Nat.lt_irrefl _)
 exact absurd (Nat.lt_of_lt_of_le (Heap.lt_size (I.pin p hp).1) (by rw [z]; exact hb)) (Nat.lt_irrefl _)
structure Turn (P : Program) (w : World) (K : PySem.W.Frag) (tg : Expr) (J : It) (fp : List Addr) (it : Addr) (tn : Nat -> Heap -> Prop) : Prop where
 mem : it ∈ fp
 obj : ∀ i h, tn i h -> ∀ b ∈ fp, ∃ o, h.get? b = some o /\ ∀ v, o.data ≠ .cell v
 keep : ∀ i h h', tn i h -> (∀ b ∈ fp, ∀ o, h.get? b = some o -> h'.get? b = some o) -> tn i h'
 item : ∀ (X : Cx), X.prog = P -> X.w = w -> X.K = K -> X.calm = true -> ∀ (i : Nat) (pins : List (Addr × Obj)) (s : Shared) (σ : St) (H : Hp) (E : Value -> Shared -> Prop), Inv X pins σ H s -> (∀ b ∈ fp, A5f X pins H b) -> tn i s.heap -> J.go i H ->
   wpAny (model P w) X.A (pyNext (.ref it)) (fun r s1 => ∃ u, r = some u /\
     wpAny (model P w) X.A (letOwnedTupleGo tg (.ref it) u) (fun _ s2 => ∃ x H', Inv X pins σ H' s2 /\ V0 x u /\ J.yld i H x H' /\ tn (i + 1) s2.heap /\ ∀ b ∈ fp, H' b = none) E s1) E s
 done : ∀ (X : Cx), X.prog = P -> X.w = w -> X.K = K -> X.calm = true -> ∀ (i : Nat) (pins : List (Addr × Obj)) (s : Shared) (σ : St) (H : Hp) (E : Value -> Shared -> Prop), Inv X pins σ H s -> (∀ b ∈ fp, A5f X pins H b) -> tn i s.heap -> J.stop i H ->
   wpAny (model P w) X.A (pyNext (.ref it)) (fun r s1 => r = none /\ Inv X pins σ H s1) E s
 self : ∀ (A : Around) (i : Nat) (s : Shared) (Q : Value -> Shared -> Prop) (E : Value -> Shared -> Prop), tn i s.heap -> Q (.ref it) s -> wpAny (model P w) A (pyIter (.ref it)) Q E s
abbrev TI := St -> Hp -> (It -> Hp -> Prop) -> Prop
def PIE (X : Cx) (pins : List (Addr × Obj)) (σ : St) (tg : Expr) (R : It -> Hp -> Prop) (itv : Value) (s2 : Shared) : Prop :=
 ∃ (it : Addr) (fp : List Addr) (tn : Nat -> Heap -> Prop) (J : It) (H' : Hp), itv = .ref it /\ Inv X pins σ H' s2 /\ Turn X.prog X.w X.K tg J fp it tn /\ tn 0 s2.heap /\ (∀ b ∈ fp, A5f X pins H' b) /\ R J H'
def PI (X : Cx) (tg iter : Expr) (wi : TI) : Prop :=
 ∀ (pins : List (Addr × Obj)) (s : Shared) (σ : St) (H : Hp) (R : It -> Hp -> Prop), Inv X pins σ H s -> wi σ H R ->
   wpAny (model X.prog X.w) X.A (eval iter X.env) (fun v s1 => wpAny (model X.prog X.w) X.A (pyIter v) (PIE X pins σ tg R) X.xe s1) X.xe s
theorem V4f {M : Model} {A : Around} {E : Value -> Shared -> Prop} {s : Shared} {tg : Expr} {it : Addr} {u : Value} {o : Obj} {n : String} {vs : Array Value} {Q : Unit -> Shared -> Prop} (ho : s.heap.get? it = some o) (hc : o.cls = .type n) (hd : o.data = .fields vs)
   (hn : ["enumerate", "zip", "dict_itemiterator", "dict_reverseitemiterator", "odict_iterator", "itertools.zip_longest", "itertools.pairwise"].contains n = false) (hQ : Q () s) : wpAny M A (letOwnedTupleGo tg (.ref it) u) Q E s := by
 unfold letOwnedTupleGo
 cases tg <;> first
   | exact wpAny_pure hQ
   | (cases u <;> first
       | exact wpAny_pure hQ
       | (refine wpAny_bind (wpAny_load ho ?_)
          rw [hc, hd]
          show wpAny M A (if (["enumerate", "zip", "dict_itemiterator", "dict_reverseitemiterator", "odict_iterator", "itertools.zip_longest", "itertools.pairwise"].contains n && vs[0]? == some (rawInt _)) = true then _ else _) Q E s
          rw [if_neg (by intro h; rw [hn, Bool.false_and] at h; cases h)]
          exact wpAny_pure hQ))
def Itl (K : PySem.W.Frag) (a : Addr) : It :=
 ⟨fun i H => ∃ xs x, SqL K H a xs /\ xs[i]? = some x, fun i H x H' => H' = H /\ ∀ xs, SqL K H a xs -> xs[i]? = some x, fun i H => ∃ xs, SqL K H a xs /\ xs.length <= i⟩
def Itt (K : PySem.W.Frag) (a : Addr) : It :=
 ⟨fun i H => ∃ xs x, SqT K H a xs /\ xs[i]? = some x, fun i H x H' => H' = H /\ ∀ xs, SqT K H a xs -> xs[i]? = some x, fun i H => ∃ xs, SqT K H a xs /\ xs.length <= i⟩
def Itr (lo : Int) (n : Nat) : It := ⟨fun i _ => i < n, fun i H x H' => H' = H /\ x = .int (lo + i), fun i _ => n <= i⟩
theorem V6b {P : Program} {w : World} {K : PySem.W.Frag} {tg : Expr} (a it : Addr) : Turn P w K tg (Itl K a) [it] it (fun i h => h.IsListIter it a i) where
 mem := by simp
 obj := fun i h st b hb => by
   have e : b = it := by simpa using hb
   subst e
   obtain ⟨o, e, c, d⟩ := st
   exact ⟨o, e, fun v z => by rw [d] at z; cases z⟩
 keep := fun i h h' st k => st.at fun o e => k it (by simp) o e
 item := by
   intro X hP hw hK hc i pins s σ H E I hf st hg
   subst hP hw hK
   obtain ⟨xs, x, hq, hx⟩ := hg
   obtain ⟨its, rv, p, hz⟩ := I.list hq
   obtain ⟨u, hu, ru⟩ := rv.get hx
   obtain ⟨f0, f1, f2, f3, f4, f5⟩ := hf it (by simp)
   refine wpAny_pyNext_list_item st p.isList (x := u) (by simpa using hu) fun h' st' sb => ?_
   have I1 : Inv X pins σ H { s with heap := h' } := I.turned (t' := s.toks) (fun b o hb e => (sb.2 b hb).trans e) f0 f1 f3 f4 f5
   obtain ⟨o, e, c, d⟩ := id st'
   exact ⟨u, rfl, V4f (s := { s with heap := h' }) e c d (by decide) ⟨x, H, I1, ru, ⟨rfl, fun ys hy => by rw [I.list_inj hy hq]; exact hx⟩, st', fun b hb => (hf b hb).1⟩⟩
 done := by
   intro X hP hw hK hc i pins s σ H E I hf st hg
   subst hP hw hK
   obtain ⟨xs, hq, hx⟩ := hg
   obtain ⟨its, rv, p, hz⟩ := I.list hq
   obtain ⟨f0, f1, f2, f3, f4, f5⟩ := hf it (by simp)
   have hl := rv.length
   exact wpAny_pyNext_list_end (I.ok.hd hc) st p.isList (by simp; omega) fun h' eb => ⟨rfl, I.turned (t' := s.toks) (fun b o hb e => eb b o hb e) f0 f1 f3 f4 f5⟩
 self := fun _ _ _ _ _ st h => wpAny_pyIter_listiter st h
theorem J9x {P : Program} {w : World} {K : PySem.W.Frag} {tg : Expr} (it : Addr) (lo : Int) (n : Nat) : Turn P w K tg (Itr lo n) [it] it (fun i h => IsRangeIter h it (lo + (i : Nat) * 1) ((n : Int) - (i : Nat)) 1) where
 mem := by simp
 obj := fun i h st b hb => by
   have e : b = it := by simpa using hb
   subst e
   exact ⟨_, st, fun v z => by
     have z' : Data.fields _ = Data.cell v := z
     cases z'⟩
 keep := fun i h h' st k => k it (by simp) _ st
 item := by
   intro X hP hw hK hc i pins s σ H E I hf st hg
   subst hP hw hK
   obtain ⟨f0, f1, f2, f3, f4, f5⟩ := hf it (by simp)
   have W := Walks.range (prog := X.prog) (w := X.w) (I.ok.hd hc) it lo 1 n
   refine W.item i s _ _ hg st fun v h' tk hv st' kk => ?_
   obtain ⟨t, rfl⟩ := hv
   have I1 : Inv X pins σ H { s with heap := h', toks := tk } := I.turned (fun b o hb e => kk b o (by simpa using hb) e) f0 f1 f3 f4 f5
   refine ⟨_, rfl, V4f (s := { s with heap := h', toks := tk }) (n := "range_iterator") st' rfl rfl (by decide) ⟨.int (lo + i), H, I1, ⟨t, ?_⟩, ⟨rfl, rfl⟩, st', fun b hb => (hf b hb).1⟩⟩
   rw [Int.mul_one]
 done := by
   intro X hP hw hK hc i pins s σ H E I hf st hg
   subst hP hw hK
   obtain ⟨f0, f1, f2, f3, f4, f5⟩ := hf it (by simp)
   exact wpAny_pyNext_range_end (I.ok.hd hc) st (by have : n <= i := hg; omega) fun h' eb => ⟨rfl, I.turned (t' := s.toks) (fun b o hb e => eb b o hb e) f0 f1 f3 f4 f5⟩
 self := fun _ _ _ _ _ st h => wpAny_pyIter_rangeiter st h
section
variable {X : Cx} {tg : Expr}
def A0qx (K : PySem.W.Frag) (tl : TE) : TI := fun σ H R => tl σ H fun x H1 => ∃ a, x = .ref a /\ (∃ xs, SqL K H1 a xs) /\ R (Itl K a) H1
def iTup (K : PySem.W.Frag) (tl : TE) : TI := fun σ H R => tl σ H fun x H1 => ∃ a, x = .ref a /\ (∃ xs, SqT K H1 a xs) /\ R (Itt K a) H1
theorem G1g {l : Expr} {tl : TE} (hl : PE X l tl) : PI X tg l (A0qx X.K tl) := by
 intro pins s σ H R I h
 refine thn (hl pins s σ H _ I h) fun v s1 ⟨x, H1, I1, r1, q1⟩ => ?_
 obtain ⟨a, e, ⟨xs, hq⟩, q⟩ := q1
 subst e
 cases r1
 obtain ⟨its, rv, p, hz⟩ := I1.list hq
 refine wpAny_pyIter_list p.isList ?_
 refine ⟨s1.heap.objs.size, [s1.heap.objs.size], _, _, H1, rfl, I1.kept (t' := s1.toks) fun b o e => Heap.get?_push_of_some _ e, V6b a _, ⟨_, Heap.get?_push_size _ rfl, rfl, rfl⟩, fun b hb => ?_, q⟩
 have e : b = s1.heap.objs.size := by simpa using hb
 subst e
 exact I1.fpOk (Nat.le_refl _) (I1.hok.fresh (Nat.le_refl _))
theorem Y7k {pins : List (Addr × Obj)} {σ : St} {H : Hp} {s : Shared} {R : It -> Hp -> Prop} {E : Value -> Shared -> Prop} {lo hi : Int} {t u v : Tok} {tk : Nat} (I : Inv X pins σ H s) (h1 : -(2 ^ 62) <= lo) (h2 : lo < 2 ^ 62) (h3 : -(2 ^ 62) <= hi) (h4 : hi < 2 ^ 62)
   (q : R (Itr lo (hi - lo).toNat) H) : wpAny (model X.prog X.w) X.A (pyIter (.ref s.heap.objs.size)) (PIE X pins σ tg R) E { s with heap := s.heap.push { cls := .type "range", data := .fields #[.int lo t, .int hi u, .int 1 v] }, toks := tk } := by
 refine wpAny_pyIter_range (IsRange.new ..) (small_one h1 h2 h3 h4) ?_
 have I1 : Inv X pins σ H { s with heap := s.heap.push { cls := .type "range", data := .fields #[.int lo t, .int hi u, .int 1 v] }, toks := tk } := I.kept fun b o e => Heap.get?_push_of_some _ e
 refine ⟨(s.heap.push { cls := .type "range", data := .fields #[.int lo t, .int hi u, .int 1 v] }).objs.size, [(s.heap.push { cls := .type "range", data := .fields #[.int lo t, .int hi u, .int 1 v] }).objs.size], _, _, H, rfl,
   I1.kept (t' := tk) fun b o e => Heap.get?_push_of_some _ e, J9x _ lo (hi - lo).toNat, ?_, fun b hb => ?_, q⟩
 . have e1 : lo + ((0 : Nat) : Int) * 1 = lo := by simp
   have e2 : (((hi - lo).toNat : Nat) : Int) - ((0 : Nat) : Int) = Builtin.Range.rangeSize lo hi 1 := by rw [rangeSize_one]; split <;> omega
   show IsRangeIter _ _ (lo + ((0 : Nat) : Int) * 1) ((((hi - lo).toNat : Nat) : Int) - ((0 : Nat) : Int)) 1
   rw [e1, e2]
   exact Heap.get?_push_size _ rfl
 have e : b = (s.heap.push { cls := .type "range", data := .fields #[.int lo t, .int hi u, .int 1 v] }).objs.size := by simpa using hb
 subst e
 exact I1.fpOk (Nat.le_refl _) (I1.hok.fresh (Nat.le_refl _))
def A0zx (ta : TA) : TI := fun σ H R => ta σ H fun vs H1 => ∃ j : Int, vs = [.int j] /\ -(2 ^ 62) <= j /\ j < 2 ^ 62 /\ R (Itr 0 j.toNat) H1
theorem B5u {a : Expr} {ta : TA} {p pos : Pos} (hg : Gl X "range") (hm : X.mg "range" = none) (ha : PA X [a] ta) (hs : starEach [a] X.env = [(false, eval a X.env)] := by rfl) : PI X tg (.Call (.Name "range" p) [a] [] pos) (A0zx ta) := by
 intro pins s σ H R I h
 refine Call_ (G2f I hg hm boot_range (PyProof.Rows.callWith_type1 (thn (ha pos pins s σ H _ I h) fun us s1 ⟨vs, H1, I1, r1, q1⟩ => ?_) hs rfl))
 obtain ⟨j, e, q1, q2, q⟩ := q1
 subst e
 cases r1 with
 | cons r rr =>
   cases rr
   obtain ⟨t, rfl⟩ := r
   exact call_range_1 (Y7k I1 (by omega) (by omega) q1 q2 (by simpa using q))
def tFor (wi : TI) (g : TG) (tb : TS) : TS := fun D σ H => wi σ H fun J H1 => ∃ W : Nat -> Nat -> St -> Hp -> Prop, (∃ m, W 0 m σ H1) /\ ∀ i m σ H, W i m σ H ->
 (J.stop i H /\ D.nx σ H) \/ (J.go i H /\ ∃ N : St -> Hp -> Prop, (∀ σ' H', N σ' H' -> ∃ m', m' < m /\ W (i + 1) m' σ' H') /\ ∀ x H', J.yld i H x H' -> g x σ H' fun σ2 H2 => tb { D with nx := N, ct := N, bk := D.nx } σ2 H2)
def G1u (fp : List Addr) (h : Heap) : List (Addr × Obj) := fp.filterMap fun b => (h.get? b).map fun o => (b, o)
theorem C9r {fp : List Addr} {h : Heap} {b : Addr} {o : Obj} (hb : b ∈ fp) (e : h.get? b = some o) : (b, o) ∈ G1u fp h := List.mem_filterMap.mpr ⟨b, hb, by rw [e]; rfl⟩
theorem V7k {fp : List Addr} {h : Heap} {p : Addr × Obj} (hp : p ∈ G1u fp h) : p.1 ∈ fp /\ h.get? p.1 = some p.2 := by
 obtain ⟨b, hb, e⟩ := List.mem_filterMap.mp hp
 cases q : h.get? b with
 | none => rw [q] at e; cases e
 | some o =>
   rw [q] at e
   have e' : (b, o) = p := Option.some.inj e
   subst e'
   exact ⟨hb, q⟩
theorem Inv.pinned {pins : List (Addr × Obj)} {σ : St} {H : Hp} {s : Shared} {fp : List Addr} (I : Inv X pins σ H s) (hf : ∀ b ∈ fp, A5f X pins H b) (ho : ∀ b ∈ fp, ∃ o, s.heap.get? b = some o /\ ∀ v, o.data ≠ .cell v) : Inv X (pins ++ G1u fp s.heap) σ H s :=
 I.pins_of fun p hp => (List.mem_append.mp hp).elim (fun z => I.pin p (List.mem_append_right _ z)) fun z => by
   obtain ⟨hb, e⟩ := V7k z
   obtain ⟨f0, f1, f2, _⟩ := hf p.1 hb
   obtain ⟨o, e', d⟩ := ho p.1 hb
   rw [e] at e'; cases e'
   exact ⟨e, f0, f1, f2, d⟩
theorem Inv.unpinned {pins pl : List (Addr × Obj)} {σ : St} {H : Hp} {s : Shared} (I : Inv X (pins ++ pl) σ H s) : Inv X pins σ H s := I.pins_of fun p hp => I.pin p (List.mem_append_right _ (List.mem_append_left _ hp))
theorem B7y {iter : Expr} {body : List Stmt} {wi : TI} {g : TG} {tb : TS} {pos : Pos} (hp : PassesOwn (model X.prog X.w) X.A X.env X.xe) (hc : X.calm = true) (hi : PI X tg iter wi) (hg : PG X tg g) (hb : PSs X body tb)
   (hs : ∀ x, foldedSetIterable iter X.env x = pure x := by intro _; rfl) : PS X (.For tg iter body [] pos) (tFor wi g tb) := by
 intro pins s σ H D I h
 refine wpAny_For (thn (hi pins s σ H _ I h) fun v s1 h1 => thn h1 fun itv s2 h2 => ?_) hs
 obtain ⟨it, fp, tn, J, H2, e, I2, T, st2, f2, W, ⟨m0, w0⟩, turn⟩ := h2
 subst e
 have stat : ∀ {H' : Hp}, (∀ b ∈ fp, H' b = none) -> ∀ b ∈ fp, A5f X pins H' b := fun hn b hb => ⟨hn b hb, (f2 b hb).2⟩
 refine codeAny_forLoop_any (fun n s' => ∃ i σ' H', Inv X pins σ' H' s' /\ tn i s'.heap /\ (∀ b ∈ fp, H' b = none) /\ W i n σ' H') ?_ m0 ⟨0, σ, H2, I2, st2, fun b hb => (f2 b hb).1, w0⟩
 rintro n s3 ⟨i, σ3, H3, I3, st3, fr3, w3⟩
 rcases turn i n σ3 H3 w3 with ⟨stop, qn⟩ | ⟨go, N, hN, step⟩
 . refine wpAny_passesOwn hp (thn (T.done X rfl rfl rfl hc i pins s3 σ3 H3 X.xe I3 (stat fr3) st3 stop) fun r s4 ⟨hr, I4⟩ => ?_)
   subst hr
   exact wpAny_execs_nil ⟨σ3, H3, I4, qn⟩
 refine wpAny_passesOwn hp (thn (T.item X rfl rfl rfl hc i pins s3 σ3 H3 X.xe I3 (stat fr3) st3 go) fun r s4 ⟨u, hr, h4⟩ => ?_)
 subst hr
 refine wpAny_passesOwn hp (thn h4 fun _ s5 ⟨x, H5, I5, r5, y5, st5, fr5⟩ => ?_)
 have I5' := I5.pinned (stat fr5) (T.obj _ _ st5)
 refine wpAny_passesOwn hp (thn (hg _ s5 σ3 H5 x u _ I5' r5 (step x H5 y5)) fun _ s6 ⟨σ6, H6, I6, q6⟩ => ?_)
 refine wpAny_passesOwn hp (thn (hb _ s6 σ6 H6 _ I6 q6) fun f s7 q7 => ?_)
 have again : ∀ {σ7 : St} {H7 : Hp}, Inv X (pins ++ G1u fp s5.heap) σ7 H7 s7 -> N σ7 H7 -> ∃ m, m < n /\ ∃ i σ' H', Inv X pins σ' H' s7 /\ tn i s7.heap /\ (∀ b ∈ fp, H' b = none) /\ W i m σ' H' := fun {σ7 H7} I7 n7 => by
   obtain ⟨m', hm, w7⟩ := hN σ7 H7 n7
   refine ⟨m', hm, i + 1, σ7, H7, I7.unpinned, T.keep _ _ _ st5 fun b hb o e => (I7.pin (b, o) (List.mem_append_right _ (List.mem_append_right _ (C9r hb e)))).1, fun b hb => ?_, w7⟩
   obtain ⟨o, e, d⟩ := T.obj _ _ st5 b hb
   exact (I7.pin (b, o) (List.mem_append_right _ (List.mem_append_right _ (C9r hb e)))).2.1
 cases f with
 | next => obtain ⟨σ7, H7, I7, n7⟩ := q7; exact again I7 n7
 | cont => obtain ⟨σ7, H7, I7, n7⟩ := q7; exact again I7 n7
 | brk => obtain ⟨σ7, H7, I7, q7⟩ := q7; exact ⟨σ7, H7, I7.unpinned, q7⟩
 | ret v => obtain ⟨x7, σ7, H7, I7, r7, q7⟩ := q7; exact ⟨x7, σ7, H7, I7.unpinned, r7, q7⟩
end
theorem B1d {K : PySem.W.Frag} {a : Addr} {xs : List V} {g : TG} {tb : TS} {D : J5n} {σ : St} {H : Hp} (Pv : Nat -> St -> Hp -> Prop) (h0 : Pv 0 σ H) (hl : ∀ i σ H, i <= xs.length -> Pv i σ H -> SqL K H a xs)
   (hs : ∀ i x σ H, xs[i]? = some x -> Pv i σ H -> g x σ H fun σ2 H2 => tb { D with nx := Pv (i + 1), ct := Pv (i + 1), bk := D.nx } σ2 H2) (hd : ∀ σ H, Pv xs.length σ H -> D.nx σ H) :
   ∃ W : Nat -> Nat -> St -> Hp -> Prop, (∃ m, W 0 m σ H) /\ ∀ i m σ H, W i m σ H ->
     ((Itl K a).stop i H /\ D.nx σ H) \/ ((Itl K a).go i H /\ ∃ N : St -> Hp -> Prop, (∀ σ' H', N σ' H' -> ∃ m', m' < m /\ W (i + 1) m' σ' H') /\ ∀ x H', (Itl K a).yld i H x H' -> g x σ H' fun σ2 H2 => tb { D with nx := N, ct := N, bk := D.nx } σ2 H2) := by
 refine ⟨fun i m σ H => m = xs.length - i /\ i <= xs.length /\ Pv i σ H, ⟨xs.length, by simp, Nat.zero_le _, h0⟩, ?_⟩
 rintro i m σ H ⟨rfl, hi, p⟩
 have q := hl i σ H hi p
 by_cases hlt : i < xs.length
 . refine .inr ⟨⟨xs, xs[i], q, by simp [hlt]⟩, Pv (i + 1), fun σ' H' p' => ⟨xs.length - (i + 1), by omega, rfl, hlt, p'⟩, fun x H' y => ?_⟩
   obtain ⟨e, y⟩ := y
   subst e
   exact hs i x σ _ (y xs q) p
 have e : i = xs.length := by omega
 subst e
 exact .inl ⟨⟨xs, q, Nat.le_refl _⟩, hd σ H p⟩
theorem B5v {lo : Int} {n : Nat} {g : TG} {tb : TS} {D : J5n} {σ : St} {H : Hp} (Pv : Nat -> St -> Hp -> Prop) (h0 : Pv 0 σ H)
   (hs : ∀ i σ H, i < n -> Pv i σ H -> g (.int (lo + i)) σ H fun σ2 H2 => tb { D with nx := Pv (i + 1), ct := Pv (i + 1), bk := D.nx } σ2 H2) (hd : ∀ σ H, Pv n σ H -> D.nx σ H) :
   ∃ W : Nat -> Nat -> St -> Hp -> Prop, (∃ m, W 0 m σ H) /\ ∀ i m σ H, W i m σ H ->
     ((Itr lo n).stop i H /\ D.nx σ H) \/ ((Itr lo n).go i H /\ ∃ N : St -> Hp -> Prop, (∀ σ' H', N σ' H' -> ∃ m', m' < m /\ W (i + 1) m' σ' H') /\ ∀ x H', (Itr lo n).yld i H x H' -> g x σ H' fun σ2 H2 => tb { D with nx := N, ct := N, bk := D.nx } σ2 H2) := by
 refine ⟨fun i m σ H => m = n - i /\ i <= n /\ Pv i σ H, ⟨n, by simp, Nat.zero_le _, h0⟩, ?_⟩
 rintro i m σ H ⟨rfl, hi, p⟩
 by_cases hlt : i < n
 . refine .inr ⟨hlt, Pv (i + 1), fun σ' H' p' => ⟨n - (i + 1), by omega, rfl, hlt, p'⟩, fun x H' y => ?_⟩
   obtain ⟨e, y⟩ := y
   subst e y
   exact hs i σ _ hlt p
 have e : i = n := by omega
 subst e
 exact .inl ⟨Nat.le_refl _, hd σ H p⟩
theorem A0z {c : TT} {tb : TS} {D : J5n} {σ : St} {H : Hp} (Pv : St -> Hp -> Prop) (μ : St -> Hp -> Nat) (h0 : Pv σ H)
   (hs : ∀ σ H, Pv σ H -> c σ H fun b H1 => if b = true then tb { D with nx := fun σ' H' => Pv σ' H' /\ μ σ' H' < μ σ H, ct := fun σ' H' => Pv σ' H' /\ μ σ' H' < μ σ H, bk := D.nx } σ H1 else D.nx σ H1)
   (mono : ∀ σ H Q Q', (∀ b H1, Q b H1 -> Q' b H1) -> c σ H Q -> c σ H Q') : Y8b c tb D σ H := by
 refine ⟨fun m σ H => m = μ σ H /\ Pv σ H, ⟨_, rfl, h0⟩, ?_⟩
 rintro m σ H ⟨rfl, p⟩
 refine mono σ H _ _ (fun b H1 q => ?_) (hs σ H p)
 cases b with
 | true => exact ⟨_, fun σ' H' ⟨p', l⟩ => ⟨_, l, rfl, p'⟩, q⟩
 | false => exact q
abbrev R2 := V -> V -> Hp -> VK -> Prop
def OpR (X : Cx) (f : Value -> Value -> Sem Value) (r : R2) : Prop :=
 ∀ (pins : List (Addr × Obj)) (s : Shared) (σ : St) (H : Hp) (x y : V) (v u : Value) (Q : VK), Inv X pins σ H s -> V0 x v -> V0 y u -> r x y H Q ->
   wpAny (model X.prog X.w) X.A (f v u) (EP X pins σ Q) X.xe s
def UnR (X : Cx) (f : Value -> Sem Value) (r : V -> Hp -> VK -> Prop) : Prop :=
 ∀ (pins : List (Addr × Obj)) (s : Shared) (σ : St) (H : Hp) (x : V) (v : Value) (Q : VK), Inv X pins σ H s -> V0 x v -> r x H Q ->
   wpAny (model X.prog X.w) X.A (f v) (EP X pins σ Q) X.xe s
def A6z (X : Cx) (f : Value) (r : List V -> Hp -> VK -> Prop) : Prop :=
 ∀ (pins : List (Addr × Obj)) (s : Shared) (σ : St) (H : Hp) (xs : List V) (us : List Value) (Q : VK), Inv X pins σ H s -> U2 xs us -> r xs H Q ->
   wpAny (model X.prog X.w) X.A (call f us) (EP X pins σ Q) X.xe s
def tOp (r : R2) (ta tb : TE) : TE := fun σ H Q => ta σ H fun x H1 => tb σ H1 fun y H2 => r x y H2 Q
def tUn (r : V -> Hp -> VK -> Prop) (ta : TE) : TE := fun σ H Q => ta σ H fun x H1 => r x H1 Q
def rI (C : Int -> Int -> Prop) (g : Int -> Int -> V) : R2 := fun x y H Q => ∃ i j, x = .int i /\ y = .int j /\ C i j /\ Q (g i j) H
def rI0 (g : Int -> Int -> V) : R2 := fun x y H Q => ∃ i j, x = .int i /\ y = .int j /\ Q (g i j) H
def rU (g : Int -> V) : V -> Hp -> VK -> Prop := fun x H Q => ∃ i, x = .int i /\ Q (g i) H
section
variable {X : Cx} {a b c : Expr} {ta tb tc : TE} {pos : Pos}
theorem binT (ha : PE X a ta) (hb : PE X b tb) {pins : List (Addr × Obj)} {s : Shared} {σ : St} {H : Hp} {R : V -> V -> Hp -> Prop} (I : Inv X pins σ H s)
   (h : ta σ H fun x H1 => tb σ H1 fun y H2 => R x y H2) {Q : Value -> Shared -> Prop} {f : Value -> Value -> Sem Value}
   (hf : ∀ v u s2 x y H2, Inv X pins σ H2 s2 -> V0 x v -> V0 y u -> R x y H2 -> wpAny (model X.prog X.w) X.A (f v u) Q X.xe s2) :
   wpAny (model X.prog X.w) X.A (eval a X.env) (fun v s₁ => wpAny (model X.prog X.w) X.A (eval b X.env) (fun u s₂ => wpAny (model X.prog X.w) X.A (f v u) Q X.xe s₂) X.xe s₁) X.xe s := by
 refine thn (ha pins s σ H _ I h) fun v s1 ⟨x, H1, I1, r1, q1⟩ => ?_
 refine thn (hb pins s1 σ H1 _ I1 q1) fun u s2 ⟨y, H2, I2, r2, q2⟩ => ?_
 exact hf v u s2 x y H2 I2 r1 r2 q2
theorem A9 {op : Operator} {r : R2} (ho : OpR X (binaryOp op) r) (ha : PE X a ta) (hb : PE X b tb) : PE X (.BinOp a op b pos) (tOp r ta tb) := by
 intro pins s σ H Q I h
 exact wpAny_BinOp (binT ha hb I h fun v u s2 x y H2 I2 rx ry q => ho pins s2 σ H2 x y v u Q I2 rx ry q)
theorem B1e {op : UnaryOp} {r : V -> Hp -> VK -> Prop} (ho : UnR X (unaryOp op) r) (ha : PE X a ta) : PE X (.UnaryOp op a pos) (tUn r ta) := by
 intro pins s σ H Q I h
 exact UnaryOp_ (thn (ha pins s σ H _ I h) fun v s1 ⟨x, H1, I1, r1, q1⟩ => ho pins s1 σ H1 x v Q I1 r1 q1)
theorem opI {f : Value -> Value -> Sem Value} {C : Int -> Int -> Prop} {g : Int -> Int -> Int}
   (rule : ∀ (i j : Int) (t u : Tok) (s : Shared) (Q : Value -> Shared -> Prop) (E : Value -> Shared -> Prop), C i j -> Q (.int (g i j) s.toks) { s with toks := s.toks + 1 } -> wpAny (model X.prog X.w) X.A (f (.int i t) (.int j u)) Q E s) :
   OpR X f (rI C fun i j => .int (g i j)) := by
 intro pins s σ H x y v u Q I rx ry h
 obtain ⟨i, j, rfl, rfl, hc, q⟩ := h
 obtain ⟨t, rfl⟩ := rx
 obtain ⟨t', rfl⟩ := ry
 exact rule i j t t' s _ _ hc ⟨.int (g i j), H, I.tok _, ⟨_, rfl⟩, q⟩
theorem opI0 {f : Value -> Value -> Sem Value} {g : Int -> Int -> Int}
   (rule : ∀ (i j : Int) (t u : Tok) (s : Shared) (Q : Value -> Shared -> Prop) (E : Value -> Shared -> Prop), Q (.int (g i j) s.toks) { s with toks := s.toks + 1 } -> wpAny (model X.prog X.w) X.A (f (.int i t) (.int j u)) Q E s) :
   OpR X f (rI0 fun i j => .int (g i j)) := by
 intro pins s σ H x y v u Q I rx ry h
 obtain ⟨i, j, rfl, rfl, q⟩ := h
 obtain ⟨t, rfl⟩ := rx
 obtain ⟨t', rfl⟩ := ry
 exact rule i j t t' s _ _ ⟨.int (g i j), H, I.tok _, ⟨_, rfl⟩, q⟩
theorem opB0 {f : Value -> Value -> Sem Value} {g : Int -> Int -> Bool}
   (rule : ∀ (i j : Int) (t u : Tok) (s : Shared) (Q : Value -> Shared -> Prop) (E : Value -> Shared -> Prop), Q (.bool (g i j)) s -> wpAny (model X.prog X.w) X.A (f (.int i t) (.int j u)) Q E s) :
   OpR X f (rI0 fun i j => .bl (g i j)) := by
 intro pins s σ H x y v u Q I rx ry h
 obtain ⟨i, j, rfl, rfl, q⟩ := h
 obtain ⟨t, rfl⟩ := rx
 obtain ⟨t', rfl⟩ := ry
 exact rule i j t t' s _ _ ⟨.bl (g i j), H, I, rfl, q⟩
def CPow (i j : Int) : Prop := 0 <= j /\ j <= 1000000 /\ i.natAbs < 2 ^ 64
def A2u (i j : Int) : Prop := (-(2 ^ 64) < i /\ i < 2 ^ 64) \/ (-(2 ^ 64) < j /\ j < 2 ^ 64)
theorem A2u.ok {i j : Int} (h : A2u i j) : IntMulOk i j := by
 rcases h with ⟨h1, h2⟩ | ⟨h1, h2⟩
 . exact .of_left (intBits_le_64 h1 h2)
 exact .of_right (intBits_le_64 h1 h2)
theorem J4 : OpR X (binaryOp .Add) (rI0 fun i j => .int (i + j)) := opI0 fun _ _ _ _ _ _ _ q => add_int q
theorem J8 : OpR X (binaryOp .Sub) (rI0 fun i j => .int (i - j)) := opI0 fun _ _ _ _ _ _ _ q => sub_int q
theorem J0 : OpR X (binaryOp .Mod) (rI (fun _ j => 0 < j) fun i j => .int (i % j)) := opI fun i j _ _ _ _ _ hc q => by
 have h1 : (0 : Int) < j := hc
 exact mod_int' (by omega) (by rw [Int.fmod_eq_emod_of_nonneg i (by omega)]; exact q)
theorem Y5j : OpR X (binaryOp .Pow) (rI CPow fun i j => .int (i ^ j.toNat)) := opI fun _ _ _ _ _ _ _ hc q => pow_int_small hc.1 hc.2.1 hc.2.2 q
theorem A0st : OpR X (binaryOp .LShift) (rI CPow fun i j => .int (i * 2 ^ j.toNat)) := opI fun _ _ _ _ _ _ _ hc q => lshift_int_small hc.1 hc.2.1 hc.2.2 q
theorem unI {f : Value -> Sem Value} {g : Int -> Int}
   (rule : ∀ (i : Int) (t : Tok) (s : Shared) (Q : Value -> Shared -> Prop) (E : Value -> Shared -> Prop), Q (.int (g i) s.toks) { s with toks := s.toks + 1 } -> wpAny (model X.prog X.w) X.A (f (.int i t)) Q E s) :
   UnR X f (rU fun i => .int (g i)) := by
 intro pins s σ H x v Q I rx h
 obtain ⟨i, rfl, q⟩ := h
 obtain ⟨t, rfl⟩ := rx
 exact rule i t s _ _ ⟨.int (g i), H, I.tok _, ⟨_, rfl⟩, q⟩
theorem A4m : UnR X (unaryOp .USub) (rU fun i => .int (-i)) := unI fun _ _ _ _ _ q => neg_int q
end
def scal : V -> V -> Bool
 | .non, .non => true | .non, .int _ => true | .int _, .non => true | .non, .bl _ => true | .bl _, .non => true | .non, .str _ => true | .str _, .non => true
 | .int _, .int _ => true | .bl _, .bl _ => true | .str _, .str _ => true | .byt _, .byt _ => true
 | .int _, .str _ => true | .str _, .int _ => true | .bl _, .str _ => true | .str _, .bl _ => true
 | _, _ => false
def rEq : R2 := fun x y H Q => scal x y = true /\ Q (.bl (decide (x = y))) H
def rNe : R2 := fun x y H Q => scal x y = true /\ Q (.bl (!decide (x = y))) H
theorem V3f {i j : Int} : decide (V.int i = V.int j) = (i == j) := by
 rw [Bool.eq_iff_iff]
 simp
theorem Y5f {i j : Bool} : decide (V.bl i = V.bl j) = (i == j) := by
 rw [Bool.eq_iff_iff]
 simp
theorem dec_str {i j : Str} : decide (V.str i = V.str j) = (i == j) := by
 rw [Bool.eq_iff_iff]
 simp
theorem V4c {i j : Array UInt8} : decide (V.byt i = V.byt j) = (i.toList == j.toList) := by
 rw [Bool.eq_iff_iff]
 cases i
 cases j
 simp
section
variable {X : Cx} {a b c : Expr} {ta tb tc : TE} {pos : Pos}
theorem U8 {pins : List (Addr × Obj)} {σ : St} {H : Hp} {s : Shared} {Q : VK} {k k' : Bool} (I : Inv X pins σ H s) (q : Q (.bl k) H) (e : k = k') : EP X pins σ Q (.bool k') s := by
 subst e
 exact ⟨.bl k, H, I, rfl, q⟩
theorem G2 : OpR X (compareOp .Eq) rEq := by
 intro pins s σ H x y v u Q I rx ry h
 obtain ⟨hs, q⟩ := h
 cases x with
 | non =>
   cases rx
   cases y with
   | non => cases ry; exact PySem.EqNone.eq_none_none (U8 I q (by simp))
   | bl j => cases ry; exact PySem.EqNone.eq_none_bool (U8 I q (by simp))
   | int j => obtain ⟨t', rfl⟩ := ry; exact PySem.EqNone.eq_none_int (U8 I q (by simp))
   | str j => obtain ⟨t', rfl⟩ := ry; exact PySem.EqNone.eq_none_str (U8 I q (by simp))
   | _ => exact absurd (show false = true from hs) Bool.false_ne_true
 | bl i =>
   cases rx
   cases y with
   | non => cases ry; exact PySem.EqNone.eq_bool_none (U8 I q (by simp))
   | bl j => cases ry; exact eq_bool (U8 I q Y5f)
   | str j => obtain ⟨t', rfl⟩ := ry; exact PySem.EqMixed.eq_bool_str (U8 I q (by simp))
   | _ => exact absurd (show false = true from hs) Bool.false_ne_true
 | int i =>
   obtain ⟨t, rfl⟩ := rx
   cases y with
   | non => cases ry; exact PySem.EqNone.eq_int_none (U8 I q (by simp))
   | int j => obtain ⟨t', rfl⟩ := ry; exact eq_int (U8 I q V3f)
   | str j => obtain ⟨t', rfl⟩ := ry; exact PySem.EqMixed.eq_int_str (U8 I q (by simp))
   | _ => exact absurd (show false = true from hs) Bool.false_ne_true
 | str i =>
   obtain ⟨t, rfl⟩ := rx
   cases y with
   | non => cases ry; exact PySem.EqNone.eq_str_none (U8 I q (by simp))
   | bl j => cases ry; exact PySem.EqMixed.eq_str_bool (U8 I q (by simp))
   | int j => obtain ⟨t', rfl⟩ := ry; exact PySem.EqMixed.eq_str_int (U8 I q (by simp))
   | str j => obtain ⟨t', rfl⟩ := ry; exact eq_str (U8 I q dec_str)
   | _ => exact absurd (show false = true from hs) Bool.false_ne_true
 | byt i =>
   obtain ⟨t, rfl⟩ := rx
   cases y with
   | byt j => obtain ⟨t', rfl⟩ := ry; exact PySem.W.eq_bytes (U8 I q V4c)
   | _ => exact absurd (show false = true from hs) Bool.false_ne_true
 | _ => cases y <;> exact absurd (show false = true from hs) Bool.false_ne_true
theorem C9h : OpR X (compareOp .NotEq) rNe := by
 intro pins s σ H x y v u Q I rx ry h
 obtain ⟨hs, q⟩ := h
 cases x with
 | non =>
   cases rx
   cases y with
   | non => cases ry; exact PySem.EqNone.ne_none_none (U8 I q (by simp))
   | bl j => cases ry; exact PySem.EqNone.ne_none_bool (U8 I q (by simp))
   | int j => obtain ⟨t', rfl⟩ := ry; exact PySem.EqNone.ne_none_int (U8 I q (by simp))
   | str j => obtain ⟨t', rfl⟩ := ry; exact PySem.EqNone.ne_none_str (U8 I q (by simp))
   | _ => exact absurd (show false = true from hs) Bool.false_ne_true
 | bl i =>
   cases rx
   cases y with
   | non => cases ry; exact PySem.EqNone.ne_bool_none (U8 I q (by simp))
   | bl j => cases ry; exact ne_bool (U8 I q (congrArg not Y5f))
   | str j => obtain ⟨t', rfl⟩ := ry; exact PySem.EqMixed.ne_bool_str (U8 I q (by simp))
   | _ => exact absurd (show false = true from hs) Bool.false_ne_true
 | int i =>
   obtain ⟨t, rfl⟩ := rx
   cases y with
   | non => cases ry; exact PySem.EqNone.ne_int_none (U8 I q (by simp))
   | int j => obtain ⟨t', rfl⟩ := ry; exact ne_int (U8 I q (congrArg not V3f))
   | str j => obtain ⟨t', rfl⟩ := ry; exact PySem.EqMixed.ne_int_str (U8 I q (by simp))
   | _ => exact absurd (show false = true from hs) Bool.false_ne_true
 | str i =>
   obtain ⟨t, rfl⟩ := rx
   cases y with
   | non => cases ry; exact PySem.EqNone.ne_str_none (U8 I q (by simp))
   | bl j => cases ry; exact PySem.EqMixed.ne_str_bool (U8 I q (by simp))
   | int j => obtain ⟨t', rfl⟩ := ry; exact PySem.EqMixed.ne_str_int (U8 I q (by simp))
   | str j => obtain ⟨t', rfl⟩ := ry; exact ne_str (U8 I q (congrArg not dec_str))
   | _ => exact absurd (show false = true from hs) Bool.false_ne_true
 | byt i =>
   obtain ⟨t, rfl⟩ := rx
   cases y with
   | byt j => obtain ⟨t', rfl⟩ := ry; exact PySem.W.ne_bytes (U8 I q (congrArg not V4c))
   | _ => exact absurd (show false = true from hs) Bool.false_ne_true
 | _ => cases y <;> exact absurd (show false = true from hs) Bool.false_ne_true
theorem B6s : OpR X (compareOp .Lt) (rI0 fun i j => .bl (decide (i < j))) := opB0 fun _ _ _ _ _ _ _ q => lt_int q
theorem A0qw : OpR X (compareOp .LtE) (rI0 fun i j => .bl (decide (i <= j))) := opB0 fun _ _ _ _ _ _ _ q => le_int q
theorem A7b : OpR X (compareOp .Gt) (rI0 fun i j => .bl (decide (j < i))) := opB0 fun _ _ _ _ _ _ _ q => gt_int q
theorem D9r : OpR X (compareOp .GtE) (rI0 fun i j => .bl (decide (j <= i))) := opB0 fun _ _ _ _ _ _ _ q => ge_int q
theorem A0tx : OpR X (compareOp .Is) (fun x y H Q => y = .non /\ Q (.bl (decide (x = .non))) H) := by
 intro pins s σ H x y v u Q I rx ry h
 obtain ⟨rfl, q⟩ := h
 cases ry
 refine is_none_gen (U8 I q ?_)
 cases x <;> first
   | (cases rx; rfl)
   | (obtain ⟨t, rfl⟩ := rx; rfl)
theorem C6 (b : Expr) {op : CmpOp} (h : op ≠ .In := by decide) (h2 : op ≠ .NotIn := by decide) : behindInMarks op b = false := by
 have e1 : (op == CmpOp.In) = false := by cases op <;> first | rfl | exact absurd rfl h
 have e2 : (op == CmpOp.NotIn) = false := by cases op <;> first | rfl | exact absurd rfl h2
 cases b <;> simp [behindInMarks, e1, e2]
theorem G9 {op : CmpOp} {r : R2} (ho : OpR X (compareOp op) r) (ha : PE X a ta) (hb : PE X b tb) (hm : behindInMarks op b = false) : PE X (.Compare a [op] [b] pos) (tOp r ta tb) := by
 intro pins s σ H Q I h
 exact wpAny_Compare1 (binT ha hb I h fun v u s2 x y H2 I2 rx ry q => ho pins s2 σ H2 x y v u Q I2 rx ry q) hm
def A0xt (t : TE) : TT := fun σ H Q => t σ H fun x H' => ∃ k, x = .bl k /\ Q k H'
theorem C7 {op : CmpOp} {r : R2} (ho : OpR X (compareOp op) r) (ha : PE X a ta) (hb : PE X b tb) (hm : behindInMarks op b = false) : PT X (.Compare a [op] [b] pos) (A0xt (tOp r ta tb)) := by
 intro pins s σ H Q I h
 refine wpAny_isTrue_Compare1 (thn (ha pins s σ H _ I h) fun v s1 ⟨x, H1, I1, r1, q1⟩ => thn (hb pins s1 σ H1 _ I1 q1) fun u s2 ⟨y, H2, I2, r2, q2⟩ =>
   thn (ho pins s2 σ H2 x y v u _ I2 r1 r2 q2) fun c s3 ⟨z, H3, I3, r3, k, e, q3⟩ => ?_) hm
 subst e
 cases r3
 exact wpAny_truthy_bool ⟨H3, I3, q3⟩
theorem C8u : (sizeLine : Nat) < 2 ^ 63 := by rw [sizeLine_eq]; decide
theorem D0a {x : V} {us : List Value} (r : U2 [x] us) : ∃ u, us = [u] /\ V0 x u := by
 cases r with
 | cons r1 r2 => cases r2; exact ⟨_, rfl, r1⟩
theorem Y4q {x y : V} {us : List Value} (r : U2 [x, y] us) : ∃ u w', us = [u, w'] /\ V0 x u /\ V0 y w' := by
 cases r with
 | cons r1 r2 =>
   cases r2 with
   | cons r3 r4 => cases r4; exact ⟨_, _, rfl, r1, r3⟩
theorem A7a : A6z X (.builtin "abs") (fun xs H Q => ∃ i, xs = [.int i] /\ Q (.int (if i < 0 then -i else i)) H) := by
 intro pins s σ H xs us Q I r h
 obtain ⟨i, rfl, q⟩ := h
 obtain ⟨u, rfl, t, rfl⟩ := D0a r
 exact call_abs_int fun u tk => ⟨.int (if i < 0 then -i else i), H, I.tok _, ⟨_, rfl⟩, q⟩
theorem Y3 (hc : X.calm = true) : A6z X (.builtin "max") (fun xs H Q => ∃ i j, xs = [.int i, .int j] /\ Q (.int (if j > i then j else i)) H) := by
 intro pins s σ H xs us Q I r h
 obtain ⟨i, j, rfl, q⟩ := h
 obtain ⟨u, w', rfl, ⟨t, rfl⟩, ⟨t', rfl⟩⟩ := Y4q r
 refine max_two_ints (I.ok.hd hc) fun h' tk k => ⟨_, H, I.kept k, ?_, q⟩
 by_cases hj : j > i
 . rw [if_pos hj, if_pos hj]; exact ⟨_, rfl⟩
 rw [if_neg hj, if_neg hj]; exact ⟨_, rfl⟩
theorem A1y (hc : X.calm = true) : A6z X (.builtin "min") (fun xs H Q => ∃ i j, xs = [.int i, .int j] /\ Q (.int (if j < i then j else i)) H) := by
 intro pins s σ H xs us Q I r h
 obtain ⟨i, j, rfl, q⟩ := h
 obtain ⟨u, w', rfl, ⟨t, rfl⟩, ⟨t', rfl⟩⟩ := Y4q r
 refine min_two_ints (I.ok.hd hc) fun h' tk k => ⟨_, H, I.kept k, ?_, q⟩
 by_cases hj : j < i
 . rw [if_pos hj, if_pos hj]; exact ⟨_, rfl⟩
 rw [if_neg hj, if_neg hj]; exact ⟨_, rfl⟩
theorem A1v : A6z X (.type "int") (fun xs H Q => (∃ i, xs = [.int i] /\ Q (.int i) H) \/ ∃ k, xs = [.bl k] /\ Q (.int (if k then 1 else 0)) H) := by
 intro pins s σ H xs us Q I r h
 rcases h with ⟨i, rfl, q⟩ | ⟨k, rfl, q⟩
 . obtain ⟨u, rfl, t, rfl⟩ := D0a r
   exact call_int_int ⟨.int i, H, I, ⟨_, rfl⟩, q⟩
 obtain ⟨u, rfl, r1⟩ := D0a r
 cases r1
 exact call_int_bool ⟨.int (if k then 1 else 0), H, I.tok _, ⟨_, rfl⟩, q⟩
theorem G2p : A6z X (.type "str") (fun xs H Q => ∃ i, xs = [.int i] /\ i.natAbs.log2 < 1920 /\ Q (.str (toString i)) H) := by
 intro pins s σ H xs us Q I r h
 obtain ⟨i, rfl, hz, q⟩ := h
 obtain ⟨u, rfl, t, rfl⟩ := D0a r
 exact PySem.P.str_of_int hz ⟨.str _, H, I.tok _, ⟨_, rfl⟩, q⟩
end
structure U1s (h : Heap) (x dx C : Addr) (mA : Str -> Option Value) : Prop where
 obj : h.get? x = some (PySem.W.instObj C dx)
 ns : h.Ns1 dx mA
 ne : dx ≠ x
theorem D9y {h : Heap} {dx : Addr} {mA : Str -> Option Value} (n : h.Ns1 dx mA) : ∃ od, h.get? dx = some od /\ ∀ name, PySem.W.lookIn name od = some (mA name) := by
 obtain ⟨o, es, ep, ho, hd, hk, _, hm⟩ := n
 refine ⟨o, ho, fun name => ?_⟩
 have e := hm name
 unfold nsFind findBy at e
 rw [<- Array.find?_toList] at e
 unfold PySem.W.lookIn
 rw [hd]
 dsimp only
 split
 . rename_i y q
   rw [q] at e
   exact congrArg some e
 rename_i q
 rw [q] at e
 have a : es.toList.any (·.refKey) = false := by
   rw [List.any_eq_false]
   intro y hy
   obtain ⟨z, t, hkey⟩ := hk y (Array.mem_toList_iff.mp hy)
   simp [DictEntry.refKey, hkey]
 have a' : ¬ es.toList.any (·.refKey) = true := by rw [a]; exact Bool.false_ne_true
 rw [if_neg a']
 exact congrArg some e
theorem U1s.look {h : Heap} {x dx C : Addr} {mA : Str -> Option Value} (I : U1s h x dx C mA) : ∃ od, PySem.W.InstAt h x (PySem.W.instObj C dx) C (some od) /\ ∀ name, PySem.W.lookIn name od = some (mA name) :=
 let ⟨od, ho, hl⟩ := D9y I.ns
 ⟨od, ⟨I.obj, rfl, rfl, ho⟩, hl⟩
section
variable {prog : Program} {w : World} {A : Around} {E : Value -> Shared -> Prop} {s : Shared} {K : PySem.W.Frag} {x dx C f : Addr} {mA : Str -> Option Value} {name : Str} {v : Value}
theorem A0gc {expr : Bool} {Q : Value -> Shared -> Prop} (X : K.In s.heap) (I : U1s s.heap x dx C mA) (hg : PySem.W.plainGet K C name = true) (hh : PySem.W.hasDictIn K C = true)
   (ha : PySem.W.findIn K (.ref C) name = some none) (hv : mA name = some v) (hv' : PySem.W.handedIn v = true) (h : Q v { s with toks := s.toks + 1 }) :
   wpAny (model prog w) A (getAttr (.ref x) name expr) Q E s := by
 obtain ⟨od, J, hl⟩ := I.look
 exact PySem.W.get_value X J (PySem.W.plainGet_of hg).1 (PySem.W.findObj_own hh ha rfl (by rw [hl, hv])) hv' h
theorem Y4u {pl : Sem Bool} {Q : Value × List Value -> Shared -> Prop} (X : K.In s.heap) (I : U1s s.heap x dx C mA) (hg : PySem.W.plainGet K C name = true)
   (hf : PySem.W.findIn K (.ref C) name = some (some (.ref f))) (ht : PySem.W.isFn K (.ref f) = true) (hv : mA name = none) (h : Q (.ref f, [.ref x]) s) :
   wpAny (model prog w) A (getMethod (.ref x) name pl) Q E s := by
 obtain ⟨od, J, hl⟩ := I.look
 exact PySem.W.method_fn X J (PySem.W.plainGet_of hg).1 (PySem.W.plainGet_of hg).2 hf (beq_iff_eq.mp ht) (by show (PySem.W.lookIn name od).map (·.isSome) = some false; rw [hl, hv]; rfl) h
theorem A0jq {ns : List Str} {Q : Unit -> Shared -> Prop} (X : K.In s.heap) (I : U1s s.heap x dx C mA)
   (hs : PySem.W.findIn K (.ref C) "__setattr__" = some (some (.builtin "object.__setattr__"))) (hp : PySem.W.plainOver K C = true) (ht : PySem.W.takerIn K C name = some none) (hh : PySem.W.hasDictIn K C = true)
   (hw : PySem.Within mA ns) (hsz : ns.length <= sizeLine)
   (h : ∀ h', U1s h' x dx C (fun y => if y = name then some v else mA y) -> Heap.SameBut dx s.heap h' -> Q () { s with heap := h', toks := s.toks + 2 }) :
   wpAny (model prog w) A (setAttr (.ref x) name v) Q E s := by
 obtain ⟨od, J, hl⟩ := I.look
 refine PySem.W.set_plain X J hs (PySem.W.osa_open (s := { s with toks := s.toks + 1 }) (r := none) X J hp ht fun b => ?_)
 obtain ⟨cd, hc, hd'⟩ := PySem.W.any_some hh
 have hx : s.heap.get? x = some ⟨.ref C, some dx, .plain, #[]⟩ := I.obj
 refine wpAny_bind (wpAny_pure (wpAny_bind (wpAny_bind (wpAny_loadPart hx (wpAny_bind (PySem.W.Looks.here (s := { s with toks := s.toks + 1 }) (PySem.W.looks_clsIn X hc) ?_))))))
 rw [hd']
 refine wpAny_pure (a := some dx) (wpAny_bind (wpAny_pure (wpAny_bind ?_)))
 refine wpAny_nsSet1 (s := { s with toks := s.toks + 1 }) I.ns fun h' hn2 hs2 => ?_
 obtain ⟨oD, esD, epD, hoD, hdD, hcD⟩ := hn2.count (PySem.Within.cons name v hw)
 refine wpAny_bind (wpAny_lookBehind hoD (by rw [hdD]; exact pastItsLine_dict (Nat.le_trans hcD (by rw [List.length_cons]; omega))) ?_)
 exact wpAny_pure (h _ ⟨(hs2.2 _ (Ne.symm I.ne)).trans I.obj, hn2, I.ne⟩ hs2)
theorem J5f {R : Result -> Shared -> Prop} {vs : List Value} {kw : List (Str × Value)} (X : K.In s.heap) (hm : PySem.W.makesIn K C = true)
   (hi : PySem.W.findIn K (.ref C) "__init__" = some (some (.ref f))) (hf : PySem.W.typeIn K (.ref f) = some (.type "function"))
   (h : codeAny (model prog w) (A.under (.builtin "type.__call__" ⟨.ref C :: vs, kw⟩)) (.call (.ref f) ⟨.ref (s.heap.objs.size + 1) :: vs, kw⟩) (PySem.W.InitBack (s.heap.objs.size + 1) R)
     { s with heap := (s.heap.push PySem.W.emptyDict).push (PySem.W.instObj C s.heap.objs.size) }) :
   codeAny (model prog w) A (.call (.ref C) ⟨vs, kw⟩) R s := by
 obtain ⟨hh, g, d, t, os⟩ := s
 exact PySem.W.make_core (PySem.W.makes_of X hm) (PySem.W.looks_findIn X hi) (fun self => PySem.W.bind_fn X self hf) (.inl rfl) h
theorem V6a {R : Result -> Shared -> Prop} (X : K.In s.heap) (hm : PySem.W.makesIn K C = true)
   (hi : PySem.W.findIn K (.ref C) "__init__" = some (some (.builtin "object.__init__")))
   (hb : ∀ self, PySem.W.Looks (model prog w) s.heap (bindSpecial (.builtin "object.__init__") self) (.builtin "object.__init__", [self]))
   (h : codeAny (model prog w) (A.under (.builtin "type.__call__" ⟨[.ref C], []⟩)) (.call (.builtin "object.__init__") ⟨[.ref (s.heap.objs.size + 1)], []⟩) (PySem.W.InitBack (s.heap.objs.size + 1) R)
     { s with heap := (s.heap.push PySem.W.emptyDict).push (PySem.W.instObj C s.heap.objs.size) }) :
   codeAny (model prog w) A (.call (.ref C) ⟨[], []⟩) R s := by
 obtain ⟨hh, g, d, t, os⟩ := s
 exact PySem.W.make_core (PySem.W.makes_of X hm) (PySem.W.looks_findIn X hi) hb (.inr ⟨rfl, rfl⟩) h
end
def V6 (f : Str) (v : V) : List (Str × V) -> List (Str × V)
 | [] => [(f, v)]
 | (g, x) :: r => if g = f then (g, v) :: r else (g, x) :: V6 f v r
theorem G8 (f g : Str) (v : V) : ∀ fs : List (Str × V), (V6 f v fs).lookup g = if g = f then some v else fs.lookup g
 | [] => by
   show List.lookup g [(f, v)] = _
   by_cases h : g = f
   . have hb : (g == f) = true := beq_iff_eq.mpr h
     simp only [List.lookup, hb, if_pos h]
   . have hb : (g == f) = false := beq_eq_false_iff_ne.mpr h
     simp only [List.lookup, hb, if_neg h]
 | (k, x) :: r => by
   have ih := G8 f g v r
   rw [show V6 f v ((k, x) :: r) = (if k = f then (k, v) :: r else (k, x) :: V6 f v r) from rfl]
   by_cases hk : k = f
   . rw [if_pos hk]
     by_cases h : g = k
     . have hb : (g == k) = true := beq_iff_eq.mpr h
       simp only [List.lookup, hb, if_pos (h.trans hk)]
     . have hb : (g == k) = false := beq_eq_false_iff_ne.mpr h
       simp only [List.lookup, hb, if_neg (fun e : g = f => h (e.trans hk.symm))]
   . rw [if_neg hk]
     by_cases h : g = k
     . have hb : (g == k) = true := beq_iff_eq.mpr h
       simp only [List.lookup, hb, if_neg (fun e : g = f => hk (h.symm.trans e))]
     . have hb : (g == k) = false := beq_eq_false_iff_ne.mpr h
       simp only [List.lookup, hb]
       exact ih
theorem C1n (f : Str) (v : V) : ∀ fs : List (Str × V), f ∈ (V6 f v fs).map (·.1) /\ ∀ g, g ∈ fs.map (·.1) -> g ∈ (V6 f v fs).map (·.1)
 | [] => ⟨by simp [V6], fun g h => by simp at h⟩
 | (k, x) :: r => by
   obtain ⟨i1, i2⟩ := C1n f v r
   rw [show V6 f v ((k, x) :: r) = (if k = f then (k, v) :: r else (k, x) :: V6 f v r) from rfl]
   by_cases hk : k = f
   . rw [if_pos hk]
     subst hk
     exact ⟨by simp, fun g h => by simpa using h⟩
   . rw [if_neg hk]
     refine ⟨?_, fun g h => ?_⟩
     . rw [List.map_cons]
       exact List.mem_cons_of_mem _ i1
     . rw [List.map_cons] at h ⊢
       rcases List.mem_cons.mp h with e | e
       . exact List.mem_cons.mpr (.inl e)
       . exact List.mem_cons_of_mem _ (i2 g e)
theorem A0x (f : Str) (v : V) : ∀ fs : List (Str × V), (V6 f v fs).length <= fs.length + 1
 | [] => by simp [V6]
 | (k, x) :: r => by
   have ih := A0x f v r
   rw [show V6 f v ((k, x) :: r) = (if k = f then (k, v) :: r else (k, x) :: V6 f v r) from rfl]
   by_cases hk : k = f
   . rw [if_pos hk, List.length_cons, List.length_cons]; omega
   . rw [if_neg hk, List.length_cons, List.length_cons]; omega
theorem C7g.some_of {v : V} {o : Option Value} (r : C7g (some v) o) : ∃ u, o = some u /\ V0 v u := by
 cases o with
 | none => exact (show False from r).elim
 | some u => exact ⟨u, rfl, r⟩
theorem C7g.none_of {o : Option Value} (r : C7g none o) : o = none := by
 cases o with
 | none => rfl
 | some u => exact (show False from r).elim
theorem V7u {v : V} {u : Value} (r : V0 v u) : PySem.W.handedIn u = true := by
 cases v with
 | non => cases (show u = Value.none from r); rfl
 | bl b => cases (show u = Value.bool b from r); rfl
 | int i => obtain ⟨t, e⟩ := (show ∃ t, u = Value.int i t from r); cases e; rfl
 | str x => obtain ⟨t, e⟩ := (show ∃ t, u = Value.str x t from r); cases e; rfl
 | byt b => obtain ⟨t, e⟩ := (show ∃ t, u = Value.bytes b t from r); cases e; rfl
 | flt b => obtain ⟨t, e⟩ := (show ∃ t, u = Value.float b t from r); cases e; rfl
 | ref a => cases (show u = Value.ref a from r); rfl
 | ty n => cases (show u = Value.type n from r); rfl
section
variable {P : Program} {w : World} {H H' : Hp} {h h' : Heap} {a C dx : Addr} {fs fs' : List (Str × V)}
theorem C7j (hok : HOk P w H h) (e : H a = some (.ins C dx fs)) : ∃ mA, U1s h a dx C mA /\ (∀ f, C7g (fs.lookup f) (mA f)) /\ PySem.Within mA (fs.map (·.1)) /\ fs.length <= 1000 /\ H dx = some (.own a) := by
 obtain ⟨d, z, ne, ob, mA, n, r, q⟩ := (show A0g P w H h a (.ins C dx fs) from hok a _ e)
 exact ⟨mA, ⟨ob, n, ne⟩, r, q, z, d⟩
end
structure Cls (K : PySem.W.Frag) (C : Addr) : Prop where
 pg : PySem.W.plainGet K C Str.empty = true
 hd : PySem.W.hasDictIn K C = true
 po : PySem.W.plainOver K C = true
 sa : PySem.W.findIn K (.ref C) "__setattr__" = some (some (.builtin "object.__setattr__"))
theorem Cls.get {K : PySem.W.Frag} {C : Addr} (c : Cls K C) (f : Str) : PySem.W.plainGet K C f = true := c.pg
def Y6 (K : PySem.W.Frag) (C : Addr) (f : Str) : Prop := PySem.W.findIn K (.ref C) f = some none
theorem Y6.taker {K : PySem.W.Frag} {C : Addr} {f : Str} (n : Y6 K C f) : PySem.W.takerIn K C f = some none := by
 unfold PySem.W.takerIn
 rw [show PySem.W.findIn K (.ref C) f = some none from n]
 rfl
structure Y5 (K : PySem.W.Frag) (C : Addr) (m : Str) (f : Addr) : Prop where
 at_ : PySem.W.findIn K (.ref C) m = some (some (.ref f))
 fn : PySem.W.isFn K (.ref f) = true
 kp : PySem.W.keepIn K (.ref f) = true
section
variable {X : Cx} {pins : List (Addr × Obj)} {σ : St} {H : Hp} {s : Shared} {a C dx : Addr} {fs : List (Str × V)} {f : Str} {v : V} {A : Around} {E : Value -> Shared -> Prop}
theorem U1j {b : Bool} {Q : Value -> Shared -> Prop} (I : Inv X pins σ H s) (e : H a = some (.ins C dx fs)) (c : Cls X.K C) (n : Y6 X.K C f) (l : fs.lookup f = some v)
   (h : ∀ u s', Inv X pins σ H s' -> V0 v u -> Q u s') : wpAny (model X.prog X.w) A (getAttr (.ref a) f b) Q E s := by
 obtain ⟨mA, O, r, _, _, _⟩ := C7j I.hok e
 obtain ⟨u, hu, ru⟩ := C7g.some_of (v := v) (o := mA f) (by rw [<- l]; exact r f)
 exact A0gc I.kIn O (c.get f) c.hd n hu (V7u ru) (h u _ (I.tok _) ru)
theorem C9g {m : Str} {g : Addr} {pl : Sem Bool} {Q : Value × List Value -> Shared -> Prop} (I : Inv X pins σ H s) (e : H a = some (.ins C dx fs)) (c : Cls X.K C) (k : Y5 X.K C m g) (l : fs.lookup m = none)
   (h : Q (.ref g, [.ref a]) s) : wpAny (model X.prog X.w) A (getMethod (.ref a) m pl) Q E s := by
 obtain ⟨mA, O, r, _, _, _⟩ := C7j I.hok e
 have hn : mA m = none := C7g.none_of (by rw [<- l]; exact r m)
 exact Y4u I.kIn O (c.get m) k.at_ k.fn hn h
theorem J9w {y : V} {u : Value} {Q : Unit -> Shared -> Prop} (I : Inv X pins σ H s) (e : H a = some (.ins C dx fs)) (c : Cls X.K C) (n : Y6 X.K C f) (hl : fs.length < 1000) (ry : V0 y u)
   (h : ∀ s', Inv X pins σ (upd H a (.ins C dx (V6 f y fs))) s' -> Q () s') : wpAny (model X.prog X.w) A (setAttr (.ref a) f u) Q E s := by
 obtain ⟨mA, O, r, wi, _, ho⟩ := C7j I.hok e
 have hz : (fs.map (·.1)).length <= sizeLine := by rw [List.length_map, sizeLine_eq]; omega
 refine A0jq I.kIn O c.sa c.po n.taker c.hd wi hz fun h' O' sb => h _ ?_
 have hd : ∃ o, h'.get? dx = some o := let ⟨o, _, _, e', _⟩ := O'.ns; ⟨o, e'⟩
 refine I.write (x := a) (e := dx) (by rw [e]; exact True.intro) (.inr ho) (fun b q hb z => (sb.2 b hb).trans z) hd ?_
 refine ⟨by rw [G6 O.ne]; exact ho, ?_, O.ne, O'.obj, _, O'.ns, fun g => ?_, fun g hg => ?_⟩
 . have := A0x f y fs; omega
 . show C7g ((V6 f y fs).lookup g) (if g = f then some u else mA g)
   rw [G8]
   by_cases q : g = f
   . rw [if_pos q, if_pos q]; exact ry
   . rw [if_neg q, if_neg q]; exact r g
 by_cases q : g = f
 . rw [q]; exact (C1n f y fs).1
 refine (C1n f y fs).2 g (wi g fun z => hg ?_)
 show (if g = f then some u else mA g) = none
 rw [if_neg q]; exact z
theorem Inv.made (I : Inv X pins σ H s) : Inv X pins σ (upd (upd H s.heap.objs.size (.own (s.heap.objs.size + 1))) (s.heap.objs.size + 1) (.ins C s.heap.objs.size []))
   { s with heap := (s.heap.push PySem.W.emptyDict).push (PySem.W.instObj C s.heap.objs.size) } := by
 have e1 : (s.heap.push PySem.W.emptyDict).get? s.heap.objs.size = some PySem.W.emptyDict := Heap.get?_push_size s.heap rfl
 have e2 : ((s.heap.push PySem.W.emptyDict).push (PySem.W.instObj C s.heap.objs.size)).get? (s.heap.objs.size + 1) = some (PySem.W.instObj C s.heap.objs.size) := by
   have := Heap.get?_push_size (s.heap.push PySem.W.emptyDict) (o := PySem.W.instObj C s.heap.objs.size) rfl
   rwa [Heap.size_push] at this
 have e3 : (s.heap.push PySem.W.emptyDict).Ns s.heap.objs.size (fun _ => none) := ⟨PySem.W.emptyDict, #[], _, e1, rfl, (fun e he => absurd he (by simp)), fun _ => rfl⟩
 have I1 := I.laid (a := s.heap.objs.size) (o := .own (s.heap.objs.size + 1)) (h' := s.heap.push PySem.W.emptyDict) (t' := s.toks) (fun b u q => Heap.get?_push_of_some _ q) (Nat.le_refl _) ⟨_, e1⟩
 refine I1.laid (a := s.heap.objs.size + 1) (o := .ins C s.heap.objs.size []) (t' := s.toks) (fun b u q => Heap.get?_push_of_some _ q) (Nat.le_of_eq (Heap.size_push _ _)) ?_
 have ne : s.heap.objs.size ≠ s.heap.objs.size + 1 := Nat.ne_of_lt (Nat.lt_succ_self _)
 refine ⟨by rw [G6 ne, A7], Nat.zero_le _, ne, e2, fun _ => none, (Heap.Ns1.of_empty e3).at fun o q => Heap.get?_push_of_some _ q, fun _ => True.intro, fun y hy => absurd rfl hy⟩
theorem A0gt {prog : Program} {w : World} {env : Env} {e : Expr} {f : Str} {pos : Pos} {s : Shared} {Q : Value -> Shared -> Prop} (hb : attributeBase e f env (eval e env) = eval e env)
   (h : wpAny (model prog w) A (eval e env) (fun o s₁ => wpAny (model prog w) A (getAttr o f true) Q E s₁) E s) : wpAny (model prog w) A (eval (.Attribute e f pos) env) Q E s :=
 Attribute_any_ h (by rw [arm_eval_Attribute, hb])
end
def tFld (K : PySem.W.Frag) (ta : TE) (f : Str) : TE := fun σ H Q => ta σ H fun x H1 => ∃ a C dx fs v, x = .ref a /\ H1 a = some (.ins C dx fs) /\ Cls K C /\ Y6 K C f /\ fs.lookup f = some v /\ Q v H1
def sFld (K : PySem.W.Frag) (ta tv : TE) (f : Str) : TS := fun D σ H => tv σ H fun y H1 => ta σ H1 fun x H2 => ∃ a C dx fs, x = .ref a /\ H2 a = some (.ins C dx fs) /\ Cls K C /\ Y6 K C f /\ fs.length < 1000 /\
 D.nx σ (upd H2 a (.ins C dx (V6 f y fs)))
section
variable {X : Cx} {o e value : Expr} {f : Str} {pos pos' tpos : Pos} {ta tv : TE}
theorem D6 (he : PE X e ta) (hb : attributeBase e f X.env (eval e X.env) = eval e X.env) : PE X (.Attribute e f pos) (tFld X.K ta f) := by
 intro pins s σ H Q I h
 refine A0gt hb (thn (he pins s σ H _ I h) fun u s1 ⟨x, H1, I1, rx, a, C, dx, fs, v, ex, ea, c, n, l, q⟩ => ?_)
 subst ex
 obtain rfl : u = Value.ref a := rx
 exact U1j I1 ea c n l fun u' s2 I2 ru => ⟨v, H1, I2, ru, q⟩
theorem Z6 (ha : PE X o ta) (hv : PE X value tv) (hs : swapsWith value (some (.Attribute o f pos')) pos.line X.env = pure false) : PS X (.Assign [.Attribute o f pos'] value pos) (sFld X.K ta tv f) := by
 intro pins s σ H D I h
 refine plainObj_wpAny_Assign_Attribute (thn (hv pins s σ H _ I h) fun u s1 ⟨y, H1, I1, ry, q⟩ => thn (ha pins s1 σ H1 _ I1 q) fun ov s2 ⟨x, H2, I2, rx, a, C, dx, fs, ex, ea, c, n, l, q2⟩ => ?_) hs
 subst ex
 obtain rfl : ov = Value.ref a := rx
 exact J9w I2 ea c n l ry fun s3 I3 => ⟨σ, _, I3, q2⟩
end
section
variable {X : Cx} {pins : List (Addr × Obj)} {σ : St} {H : Hp} {s : Shared} {A : Around} {E : Value -> Shared -> Prop} {Q : Value -> Shared -> Prop} {c : Value} {b : Bool}
inductive C1y (K : PySem.W.Frag) (H : Hp) : V -> Value -> Prop where
 | non : C1y K H .non (.type "NoneType")
 | bl (x : Bool) : C1y K H (.bl x) (.type "bool")
 | int (i : Int) : C1y K H (.int i) (.type "int")
 | str (x : Str) : C1y K H (.str x) (.type "str")
 | flt (x : UInt64) : C1y K H (.flt x) (.type "float")
 | lst {a : Addr} {xs : List V} (e : H a = some (.lst xs)) : C1y K H (.ref a) (.type "list")
 | frz {a : Addr} {o : Obj} {xs : List V} (e : H a = some (.frz o (.lst xs))) : C1y K H (.ref a) (.type "list")
 | tup {a : Addr} {xs : List V} (e : H a = some (.tup xs)) : C1y K H (.ref a) (.type "tuple")
 | dK {a : Addr} {kvs : List (Key × V)} (e : H a = some (.dK kvs)) : C1y K H (.ref a) (.type "dict")
 | dT {a : Addr} {kvs : List (List Key × V)} (e : H a = some (.dT kvs)) : C1y K H (.ref a) (.type "dict")
 | ins {a C dx : Addr} {fs : List (Str × V)} (e : H a = some (.ins C dx fs)) (cl : Cls K C) (ha : PySem.W.findIn K (.ref C) "__class__" = some (some (.builtin "object.__class__")))
     (hn : PySem.W.specialIn K (.builtin "object.__class__") "__get__" = some (some (.builtin "getset_descriptor.__get__"))) (htk : PySem.W.takesIn K (.builtin "object.__class__") = some true)
     (hm : PySem.W.mroIn K C (.type "object") = some true) : C1y K H (.ref a) (.ref C)
theorem V7v {x : V} {u t : Value} (I : Inv X pins σ H s) (rx : V0 x u) (ty : C1y X.K H x t) (e : PySem.W.kitOne X.K t c = some b) (h : ∀ tk, Q (.bool b) { s with toks := tk }) :
   wpAny (model X.prog X.w) A (call (.builtin "isinstance") [u, c]) Q E s := by
 cases ty with
 | non => cases (show u = Value.none from rx); exact PySem.W.kia_one PySem.W.kitx_none I.kIn True.intro e (fun z => nomatch z) h
 | bl y => cases (show u = Value.bool y from rx); exact PySem.W.kia_one PySem.W.kitx_bool I.kIn True.intro e (fun z => nomatch z) h
 | int i => obtain ⟨t, q⟩ := (show ∃ t, u = Value.int i t from rx); cases q; exact PySem.W.kia_one PySem.W.kitx_int I.kIn True.intro e (fun z => nomatch z) h
 | str y => obtain ⟨t, q⟩ := (show ∃ t, u = Value.str y t from rx); cases q; exact PySem.W.kia_one PySem.W.kitx_str I.kIn True.intro e (fun z => nomatch z) h
 | flt y => obtain ⟨t, q⟩ := (show ∃ t, u = Value.float y t from rx); cases q; exact PySem.W.kia_one PySem.W.kitx_float I.kIn True.intro e (fun z => nomatch z) h
 | @lst a xs ea =>
   cases (show u = Value.ref a from rx)
   obtain ⟨_, _, n, _, h1⟩ := (show A0g X.prog X.w H s.heap a (.lst xs) from I.hok a _ ea)
   exact PySem.W.kia_one PySem.W.kitx_list I.kIn ⟨_, h1, rfl⟩ e (fun z => nomatch z) h
 | @frz a ob xs ea =>
   cases (show u = Value.ref a from rx)
   obtain ⟨_, _, _, n, _, h1⟩ := (show A0g X.prog X.w H s.heap a (.frz ob (.lst xs)) from I.hok a _ ea)
   exact PySem.W.kia_one PySem.W.kitx_list I.kIn ⟨_, h1, rfl⟩ e (fun z => nomatch z) h
 | @tup a xs ea =>
   cases (show u = Value.ref a from rx)
   obtain ⟨_, _, _, p⟩ := (show A0g X.prog X.w H s.heap a (.tup xs) from I.hok a _ ea)
   obtain ⟨o, h1, h2, _⟩ := p
   exact PySem.W.kia_one PySem.W.kitx_tuple I.kIn ⟨o, h1, h2⟩ e (fun z => nomatch z) h
 | @dK a kvs ea =>
   cases (show u = Value.ref a from rx)
   obtain ⟨_, _, vs, _, p⟩ := (show A0g X.prog X.w H s.heap a (.dK kvs) from I.hok a _ ea)
   obtain ⟨o, es, ep, h1, h2, _⟩ := p
   exact PySem.W.kia_one PySem.W.kitx_dict I.kIn ⟨o, h1, h2.1⟩ e (fun z => nomatch z) h
 | @dT a kvs ea =>
   cases (show u = Value.ref a from rx)
   obtain ⟨_, _, xs, _, o, es, ep, h1, h2, _⟩ := (show A0g X.prog X.w H s.heap a (.dT kvs) from I.hok a _ ea)
   exact PySem.W.kia_one PySem.W.kitx_dict I.kIn ⟨o, h1, h2.1⟩ e (fun z => nomatch z) h
 | @ins a C dx fs ea cl ha hn htk hm =>
   cases (show u = Value.ref a from rx)
   obtain ⟨mA, O, _⟩ := C7j I.hok ea
   obtain ⟨od, J, _⟩ := O.look
   exact PySem.W.kia_one (PySem.W.kitx_own (cl.get _) cl.hd ha hn htk hm) I.kIn J e (fun z => nomatch z) h
end
structure A0m (k : Nat) (A : Around) : Prop where
 hd : A.handled = none
 dp : A.depth + 3 * k + 5 < recursionLimit
 un : A.units + 16 * k + 200 < cLine
theorem A0m.mono {j k : Nat} {A : Around} (r : A0m k A) (h : j <= k) : A0m j A := ⟨r.hd, by have := r.dp; omega, by have := r.un; omega⟩
theorem A0m.deeper {k : Nat} {A : Around} (r : A0m (k + 1) A) (env : Env) : A0m k (A.deeper env) :=
 ⟨r.hd, by have := r.dp; show A.depth + 1 + 3 * k + 5 < _; omega, by have := r.un; show A.units + 3 + 16 * k + 200 < _; omega⟩
theorem U0k {A : Around} {C : Addr} {us : List Value} {kw : List (Str × Value)} : (A.under (.builtin "type.__call__" ⟨.ref C :: us, kw⟩)).depth = A.depth + 1 := by
 first | rfl | simp [Around.under, Code.weight, Code.isCreation, Code.isGuard, Code.isCaller, Code.frames, Code.isFrame, guardIds]
theorem U0z {A : Around} {C : Addr} {us : List Value} {kw : List (Str × Value)} : (A.under (.builtin "type.__call__" ⟨.ref C :: us, kw⟩)).units = A.units + 1 := by
 first | rfl | simp [Around.under, Code.cUnits, Code.frames, Code.isFrame]
theorem A0m.make {k : Nat} {A : Around} (r : A0m (k + 1) A) (C : Addr) (us : List Value) (kw : List (Str × Value)) : A0m k (A.under (.builtin "type.__call__" ⟨.ref C :: us, kw⟩)) :=
 ⟨r.hd, by have := r.dp; rw [U0k]; omega, by have := r.un; rw [U0z]; omega⟩
theorem A0m.depth {k : Nat} {A : Around} (r : A0m k A) : A.depth < recursionLimit := by have := r.dp; omega
theorem A0m.units {k : Nat} {A : Around} (r : A0m k A) : A.units + 64 < cLine := by have := r.un; omega
def Y6n : TA := fun _ H Q => Q [] H
def Y4b (ta : TE) (tr : TA) : TA := fun σ H Q => ta σ H fun x H1 => tr σ H1 fun xs H2 => Q (x :: xs) H2
section
variable {X : Cx} {e : Expr} {es : List Expr} {te : TE} {t : TA} {pos : Pos}
theorem A5 : PA X [] Y6n := fun _ _ _ _ H Q I h => Calls.spliced_nil ⟨[], H, I, .nil, h⟩
theorem A0 (ha : PE X e te) (hr : PA X es t) (hs : starEach (e :: es) X.env = (false, eval e X.env) :: starEach es X.env := by rfl) : PA X (e :: es) (Y4b te t) := by
 intro pos pins s σ H Q I h
 rw [hs]
 show wpAny _ _ (spliced ((false, eval e X.env) :: backTo pos (starEach es X.env))) _ _ s
 refine Calls.spliced_cons (thn (ha pins s σ H _ I h) fun u s1 ⟨x, H1, I1, r1, q1⟩ => ?_)
 exact thn (hr pos pins s1 σ H1 _ I1 q1) fun us s2 ⟨xs, H2, I2, r2, q2⟩ => ⟨x :: xs, H2, I2, .cons r1 r2, q2⟩
def tTup (t : TA) : TE := fun σ H Q => t σ H fun xs H1 => xs.length <= sizeLine /\ ∀ p, H1 p = none -> Q (.ref p) (upd H1 p (.tup xs))
def tLst (t : TA) : TE := fun σ H Q => t σ H fun xs H1 => xs.length <= sizeLine /\ ∀ p, H1 p = none -> Q (.ref p) (upd H1 p (.lst xs))
theorem U5 {x1} (h : PA X es t) : PE X (.Tuple es x1 pos) (tTup t) := by
 intro pins s σ H Q I hq
 refine wpAny_Tuple_spliced (thn (h pos pins s σ H _ I hq) fun us s1 ⟨xs, H1, I1, r, z, q⟩ => ⟨by rw [<- r.length]; exact z, ?_⟩)
 have hf : H1 s1.heap.objs.size = none := I1.hok.fresh (Nat.le_refl _)
 refine ⟨.ref s1.heap.objs.size, upd H1 s1.heap.objs.size (.tup xs), I1.laid (t' := s1.toks) (fun b u e => Heap.get?_push_of_some _ e) (Nat.le_refl _) ?_, rfl, q _ hf⟩
 exact ⟨z, us, r, ⟨_, Heap.get?_push_size _ rfl, rfl, _, rfl⟩⟩
theorem U4 (h : PA X es t) : PE X (.List es pos) (tLst t) := by
 intro pins s σ H Q I hq
 refine wpAny_List_spliced (thn (h pos pins s σ H _ I hq) fun us s1 ⟨xs, H1, I1, r, z, q⟩ => ⟨by rw [<- r.length]; exact z, ?_⟩)
 have hf : H1 s1.heap.objs.size = none := I1.hok.fresh (Nat.le_refl _)
 refine ⟨.ref s1.heap.objs.size, upd H1 s1.heap.objs.size (.lst xs), I1.laid (t' := s1.toks) (fun b u e => Heap.get?_push_of_some _ e) (Nat.le_refl _) ?_, rfl, q _ hf⟩
 exact ⟨z, us, 0, r, Heap.get?_push_size _ rfl⟩
end
abbrev Sp := List V -> Hp -> VK -> XK -> Prop
abbrev CXT := List Env -> Hp -> Shared -> XK -> Value -> Shared -> Prop
structure U1t (P : Program) (w : World) (K : PySem.W.Frag) (mg : Str -> Option Value) (base : Heap) (A : Around) (outer : List Env) (s : Shared) (H : Hp) : Prop where
 frames : A.frames = some outer
 mod : Mod K mg base
 bs : ∀ b o, base.get? b = some o -> s.heap.get? b = some o /\ H b = none
 bsz : base.objs.size <= s.heap.objs.size
 funs : s.heap.FunFrames base outer
 frf : ∀ b ∈ frs outer, H b = none
 hok : HOk P w H s.heap
 bare : AllBare s.gens
def CE (outer : List Env) (P : Program) (w : World) (H : Hp) (s : Shared) (Q : VK) (u : Value) (s' : Shared) : Prop :=
 ∃ v H', s'.os = s.os /\ AllBare s'.gens /\ Un (frs outer) [] H H' s.heap s'.heap /\ HOk P w H' s'.heap /\ V0 v u /\ Q v H'
def CR (CX : CXT) (outer : List Env) (P : Program) (w : World) (H : Hp) (s : Shared) (Q : VK) (E : XK) (r : Result) (s' : Shared) : Prop :=
 match r with
 | .ok (.ret u) => CE outer P w H s Q u s'
 | .ok _ => False
 | .error e => CX outer H s E e s'
structure A8 (P : Program) (w : World) (K : PySem.W.Frag) (mg : Str -> Option Value) (base : Heap) (CX : CXT) (k : Nat) (f : Addr) (fd : FuncData) (ps : List Str) (sp : Sp) : Prop where
 len : ∀ vs H Q E, sp vs H Q E -> vs.length = ps.length
 run : ∀ (A : Around) (outer : List Env) (s : Shared) (H : Hp) (args : Args) (us : List Value) (vs : List V) (Q : VK) (E : XK), A0m k A -> U1t P w K mg base A outer s H -> BindsTo s fd args (ps.zip us) -> U2 vs us -> sp vs H Q E ->
   codeAny (model P w) A (.call (.ref f) args) (CR CX outer P w H s Q E) s
theorem A8.mono {P : Program} {w : World} {K : PySem.W.Frag} {mg : Str -> Option Value} {base : Heap} {CX : CXT} {j k : Nat} {f : Addr} {fd : FuncData} {ps : List Str} {sp : Sp} (F : A8 P w K mg base CX j f fd ps sp) (h : j <= k) :
   A8 P w K mg base CX k f fd ps sp := ⟨F.len, fun A outer s H args us vs Q E hr => F.run A outer s H args us vs Q E (hr.mono h)⟩
theorem U1t.make {P : Program} {w : World} {K : PySem.W.Frag} {mg : Str -> Option Value} {base : Heap} {A : Around} {outer : List Env} {s : Shared} {H : Hp} (e : U1t P w K mg base A outer s H) (C : Addr) (us : List Value) (kw : List (Str × Value)) :
   U1t P w K mg base (A.under (.builtin "type.__call__" ⟨.ref C :: us, kw⟩)) outer s H := ⟨by first | exact e.frames | (simpa [Around.under, Code.envs, Code.isFrame, pushEnvs] using e.frames), e.mod, e.bs, e.bsz, e.funs, e.frf, e.hok, e.bare⟩
section
variable {X : Cx} {pins : List (Addr × Obj)} {σ : St} {H : Hp} {s s' : Shared}
theorem Inv.env0 (I : Inv X pins σ H s) : U1t X.prog X.w X.K X.mg X.base X.A X.stack s H :=
 ⟨I.ok.frames, I.ok.mod, I.bs, Nat.le_trans I.ok.bsz I.sz, I.stack, I.stkFree, I.hok, I.bare⟩
theorem Inv.after {Q : VK} {u : Value} (I : Inv X pins σ H s) (h : CE X.stack X.prog X.w H s Q u s') : EP X pins σ Q u s' := by
 obtain ⟨v, H', os, bare, un, hok, r, q⟩ := h
 obtain ⟨hh, g, d, t, os'⟩ := s'
 obtain rfl : os' = s.os := os
 exact ⟨v, H', I.call (h' := hh) (g' := g) (d' := d) (t' := t) (ch := []) un hok bare (fun b z => absurd z (by simp)), r, q⟩
end
def A0zv (C : Addr) (sp : Sp) (dvs : List V) (E : XK) (t : TA) : TE := fun σ H Q => t σ H fun vs H1 => ∀ x dx, H1 x = none -> H1 dx = none -> dx ≠ x ->
 sp (.ref x :: (vs ++ dvs)) (upd (upd H1 dx (.own x)) x (.ins C dx [])) (fun v H2 => v = .non /\ Q (.ref x) H2) E
def Binds (K : PySem.W.Frag) (fd : FuncData) (ps : List Str) (ds : List Value) : Prop :=
 ∀ (s : Shared) (us : List Value), K.In s.heap -> (us ++ ds).length = ps.length -> BindsTo s fd ⟨us, []⟩ (ps.zip (us ++ ds))
theorem Binds.all {K : PySem.W.Frag} {fd : FuncData} {ps : List Str} (h : ∀ us : List Value, us.length = ps.length -> bindArgs fd ⟨us, []⟩ = pure (ps.zip us)) : Binds K fd ps [] := fun s us _ hl => by
 rw [List.append_nil] at hl ⊢
 exact .of_eq (h us hl)
def U0p (CX : CXT) (X : Cx) (E : XK) : Prop := ∀ (pins : List (Addr × Obj)) (σ : St) (H : Hp) (s : Shared) (e : Value) (s' : Shared), Inv X pins σ H s -> CX X.stack H s E e s' -> X.xe e s'
section
variable {X : Cx} {CX : CXT} {k : Nat} {f C : Addr} {fd : FuncData} {ps : List Str} {sp : Sp} {dvs : List V} {ds : List Value} {E : XK} {x m : Str} {p pos apos : Pos} {e o : Expr} {es : List Expr} {ta : TE} {t : TA}
structure Mk (K : PySem.W.Frag) (C f : Addr) : Prop where
 makes : PySem.W.makesIn K C = true
 init : PySem.W.findIn K (.ref C) "__init__" = some (some (.ref f))
 fn : PySem.W.isFn K (.ref f) = true
 kp : PySem.W.keepIn K (.ref C) = true
theorem Y4y {pins : List (Addr × Obj)} {σ : St} {H : Hp} {s : Shared} {Q : VK} {us : List Value} {vs : List V} (M : Mk X.K C f) (F : A8 X.prog X.w X.K X.mg X.base CX k f fd ps sp) (hr : A0m (k + 1) X.A) (hb : Binds X.K fd ps ds) (hd : U2 dvs ds)
   (hx : U0p CX X E) (I : Inv X pins σ H s) (r : U2 vs us)
   (h : ∀ x dx, H x = none -> H dx = none -> dx ≠ x -> sp (.ref x :: (vs ++ dvs)) (upd (upd H dx (.own x)) x (.ins C dx [])) (fun v H2 => v = .non /\ Q (.ref x) H2) E) :
   wpAny (model X.prog X.w) X.A (call (.ref C) us) (EP X pins σ Q) X.xe s := by
 have hq := h (s.heap.objs.size + 1) s.heap.objs.size (I.hok.fresh (Nat.le_succ _)) (I.hok.fresh (Nat.le_refl _)) (Nat.ne_of_lt (Nat.lt_succ_self _))
 have I2 := Inv.made (C := C) I
 have r2 : U2 (V.ref (s.heap.objs.size + 1) :: (vs ++ dvs)) (Value.ref (s.heap.objs.size + 1) :: (us ++ ds)) := .cons rfl (r.append hd)
 have hl : (Value.ref (s.heap.objs.size + 1) :: us ++ ds).length = ps.length := by
   have e := r2.length
   rw [F.len _ _ _ _ hq] at e
   exact e.symm
 refine wpAny_call (J5f (f := f) I.kIn M.makes M.init (beq_iff_eq.mp M.fn) (codeAny_mono (F.run _ X.stack _ _ ⟨Value.ref (s.heap.objs.size + 1) :: us, []⟩ (Value.ref (s.heap.objs.size + 1) :: (us ++ ds)) _ _ E (hr.make C us [])
   (I2.env0.make C us []) (hb _ (Value.ref (s.heap.objs.size + 1) :: us) I2.kIn hl) r2 hq) fun r s' hq' => ?_))
 cases r with
 | error e => exact hx pins σ _ _ e s' I2 hq'
 | ok fl =>
   cases fl with
   | ret u =>
     obtain ⟨v, H', I3, rv, ev, q3⟩ := I2.after hq'
     subst ev
     exact ⟨rv, ⟨V.ref (s.heap.objs.size + 1), H', I3, rfl, q3⟩⟩
   | next => exact False.elim hq'
   | brk => exact False.elim hq'
   | cont => exact False.elim hq'
theorem G2c (M : Mk X.K C f) (F : A8 X.prog X.w X.K X.mg X.base CX k f fd ps sp) (hr : A0m (k + 1) X.A) (hg : Gl X x) (hm : X.mg x = some (.ref C)) (hb : Binds X.K fd ps ds) (hd : U2 dvs ds) (hx : U0p CX X E)
   (ha : PA X (e :: es) t) (hdb : (x == ("__debug__" : Str)) = false := by decide) (he : starEach (e :: es) X.env = (false, eval e X.env) :: starEach es X.env := by rfl) (hpl : (backTo pos (starEach es X.env)).any (·.1) = false := by rfl) :
   PE X (.Call (.Name x p) (e :: es) [] pos) (A0zv C sp dvs E t) := by
 intro pins s σ H Q I h
 refine wpAny_Call_Name_kw (A3n I hg hm ?_ hdb)
 refine PySem.W.callWith_K (h₀ := X.base) I.ok.mod.kin M.kp (thn (ha pos pins s σ H _ I h) fun us s1 ⟨vs, H1, I1, r, q⟩ => ⟨I1.kIn, ?_⟩) he hpl
 exact Y4y M F hr hb hd hx I1 r q
end
section
variable {X : Cx} {CX : CXT} {k : Nat} {f C : Addr} {fd : FuncData} {ps ks : List Str} {sp : Sp} {E : XK} {x m : Str} {p pos apos kpos : Pos} {e o : Expr} {es : List Expr} {kws : List Keyword} {te ta : TE} {t tk : TA} {nm : Option Str}
structure Y8k (K : PySem.W.Frag) (fd : FuncData) (ps ks : List Str) (g : List Value -> List Value -> List Value) (gV : List V -> List V -> List V) : Prop where
 to : ∀ (s : Shared) (us ws : List Value), K.In s.heap -> (g us ws).length = ps.length -> BindsTo s fd ⟨us, ks.zip ws⟩ (ps.zip (g us ws))
 rel : ∀ {vs : List V} {us : List Value} {zs : List V} {ws : List Value}, U2 vs us -> U2 zs ws -> U2 (gV vs zs) (g us ws)
variable {g : List Value -> List Value -> List Value} {gV : List V -> List V -> List V}
end
structure C5 (N P : List Str) (sc : Scope) : Prop where
 kind : sc.kind = .function
 co : sc.isCoroutine = false
 gen : sc.isGenerator = false
 nd : N.Nodup
 pre : N.take P.length = P
 par : ∀ x ∈ P, sc.names.lookup x = some .local \/ sc.names.lookup x = some .cell
 nofree : ∀ y ∈ sc.names, y.2 ≠ .free
theorem D9m {kindOf : Str -> Option NameKind} {x : Str} : ∀ {binds : List (Str × Value)} {m : Str -> Option Value}, (∀ v, (x, v) ∉ binds) -> bindL kindOf binds m x = m x
 | [], _, _ => rfl
 | (n, v) :: r, m, h => by
   unfold bindL
   rw [D9m fun w hw => h w (List.mem_cons_of_mem _ hw)]
   split
   . have : x ≠ n := by rintro rfl; exact h v List.mem_cons_self
     simp [this]
   . rfl
theorem D8z {kindOf : Str -> Option NameKind} {x : Str} : ∀ {binds : List (Str × Value)} {m : Str -> Option Value}, (∀ v, (x, v) ∉ binds) -> bindC kindOf binds m x = m x
 | [], _, _ => rfl
 | (n, v) :: r, m, h => by
   unfold bindC
   rw [D8z fun w hw => h w (List.mem_cons_of_mem _ hw)]
   split
   . rfl
   . have : x ≠ n := by rintro rfl; exact h v List.mem_cons_self
     simp [this]
theorem D8v {kindOf : Str -> Option NameKind} {x : Str} {v : Value} : ∀ {P : List Str} {vs : List Value} {i : Nat} {m : Str -> Option Value}, P.Nodup -> P[i]? = some x -> vs[i]? = some v -> kindOf x = some .local ->
   bindL kindOf (P.zip vs) m x = some v
 | [], _, _, _, _, h, _, _ => by simp at h
 | _ :: _, [], _, _, _, _, h, _ => by simp at h
 | p :: P, w :: vs, 0, m, nd, h1, h2, hk => by
   simp at h1 h2; subst h1; subst h2
   show bindL kindOf ((p, w) :: P.zip vs) m p = _
   unfold bindL
   rw [D9m fun v hv => (List.nodup_cons.mp nd).1 (List.of_mem_zip hv).1, if_pos hk]
   simp
 | p :: P, w :: vs, i + 1, m, nd, h1, h2, hk => by
   show bindL kindOf ((p, w) :: P.zip vs) m x = _
   unfold bindL
   exact D8v (i := i) (List.nodup_cons.mp nd).2 (by simpa using h1) (by simpa using h2) hk
theorem D9f {kindOf : Str -> Option NameKind} {x : Str} {v : Value} : ∀ {P : List Str} {vs : List Value} {i : Nat} {m : Str -> Option Value}, P.Nodup -> P[i]? = some x -> vs[i]? = some v -> kindOf x ≠ some .local ->
   bindC kindOf (P.zip vs) m x = some v
 | [], _, _, _, _, h, _, _ => by simp at h
 | _ :: _, [], _, _, _, _, h, _ => by simp at h
 | p :: P, w :: vs, 0, m, nd, h1, h2, hk => by
   simp at h1 h2; subst h1; subst h2
   show bindC kindOf ((p, w) :: P.zip vs) m p = _
   unfold bindC
   rw [D8z fun v hv => (List.nodup_cons.mp nd).1 (List.of_mem_zip hv).1, if_neg hk]
   simp
 | p :: P, w :: vs, i + 1, m, nd, h1, h2, hk => by
   show bindC kindOf ((p, w) :: P.zip vs) m x = _
   unfold bindC
   exact D9f (i := i) (List.nodup_cons.mp nd).2 (by simpa using h1) (by simpa using h2) hk
def B6t (N : List Str) (vs : List V) : St := vs.map some ++ List.replicate (N.length - vs.length) none
def A1x (CX : CXT) (P : Program) (w : World) (K : PySem.W.Frag) (mg : Str -> Option Value) (base : Heap) (N : List Str) (qual : Str) (scope : Scope) (f : Addr) (cd : Value) (A : Around) (outer : List Env) (s : Shared) (H : Hp) (E : XK) : Cx where
 prog := P
 w := w
 K := K
 mg := mg
 base := base
 A := A.deeper (envOfC qual scope s.heap.objs.size f cd)
 N := N
 s₀ := s
 H₀ := H
 env := envOfC qual scope s.heap.objs.size f cd
 outer := outer
 stack := envOfC qual scope s.heap.objs.size f cd :: outer
 ex := []
 calm := true
 fn := fun _ => true
 pn := []
 xe := fun e s' => wpAny (model P w) (A.deeper (envOfC qual scope s.heap.objs.size f cd)) (leaving (envOfC qual scope s.heap.objs.size f cd) e) (fun _ s'' => CX outer H s E e s'') (fun e' s'' => CX outer H s E e' s'') s'
theorem J5d {sc : Scope} {n : Nat} {x : Str} (h : sc.names.lookup x = some .cell) : ∃ c, (cellsFrom n sc.names []).lookup x = some c := by
 have q := PySem.W.cellsFrom_some sc.names n [] (.inl h)
 exact Option.isSome_iff_exists.mp q
theorem V7n {CX : CXT} {P : Program} {w : World} {K : PySem.W.Frag} {mg : Str -> Option Value} {base : Heap} {N ps : List Str} {qual : Str} {scope : Scope} {f : Addr} {cd : Value} {A : Around} {outer : List Env} {s s1 : Shared} {H : Hp} {E : XK} {us : List Value} {vs : List V}
   (S : C5 N ps scope) (hd : A.handled = none) (e0 : U1t P w K mg base A outer s H) (hl : vs.length = ps.length) (r : U2 vs us)
   (x : InCallC s s.heap.objs.size (bindL (envOfC qual scope s.heap.objs.size f cd).kindOf (ps.zip us) fun _ => none) (cellsFrom (s.heap.objs.size + 1) scope.names []) (bindC (envOfC qual scope s.heap.objs.size f cd).kindOf (ps.zip us) fun _ => none) s1) :
   Inv (A1x CX P w K mg base N qual scope f cd A outer s H E) [] (B6t N vs) H s1 := by
 have hpl : ps.length <= N.length := by have := congrArg List.length S.pre; rw [List.length_take] at this; omega
 obtain ⟨h1, tk, rfl, hk⟩ := x.done
 have noA : ∀ b : Addr, b ∉ (A1x CX P w K mg base N qual scope f cd A outer s H E).ex := fun b z => absurd (show b ∈ ([] : List Addr) from z) (by simp)
 refine ⟨⟨e0.mod, S.kind, rfl, rfl, Nat.le_refl _, fun y z c h1 h2 => ?_, fun y hy => ?_, fun y c _ h => ?_, fun _ => hd, Around.frames_deeper e0.frames, .inr ⟨rfl, rfl⟩, fun b z => absurd z (noA b), e0.bs, e0.bsz, fun b _ _ => noA b, fun b z => absurd z (noA b), e0.funs, e0.frf⟩,
   rfl, e0.bare, Un.kept hk, ⟨_, x.toInCall.ns, fun i y v h1 h2 h3 => ?_⟩, fun y c h => ⟨_, x.cell y c h⟩, e0.hok.fresh (Nat.le_refl _), fun y c h => ?_, fun p hp => absurd (show p ∈ ([] : List (Addr × Obj)) from hp) (by simp), e0.hok.kept hk, ?_⟩
 . exact name_of_addr x.apart (PySem.mem_of_lookup h1) (PySem.mem_of_lookup h2)
 . have hy : scope.names.lookup y = some .cell \/ scope.names.lookup y = some .free := hy
   rcases hy with hy | hy
   . exact J5d hy
   . exact absurd rfl (S.nofree _ (PySem.mem_of_lookup hy))
 . exact Nat.le_of_lt (x.above y c (PySem.mem_of_lookup h))
 . have hi : i < vs.length := by
     unfold B6t at h2
     by_cases hi : i < vs.length
     . exact hi
     . rw [List.getElem?_append_right (by simpa using hi)] at h2
       rw [List.getElem?_replicate] at h2
       split at h2 <;> cases h2
   have ha : vs[i]? = some v := by
     unfold B6t at h2
     rw [List.getElem?_append_left (by simpa using hi), List.getElem?_map] at h2
     cases e : vs[i]? with
     | none => rw [e] at h2; cases h2
     | some a => rw [e] at h2; cases h2; rfl
   obtain ⟨u, hu, rv⟩ := r.get ha
   have hp : ps[i]? = some y := by
     rw [<- S.pre, List.getElem?_take_of_lt (by omega)]; exact h1
   have ndP : ps.Nodup := by rw [<- S.pre]; exact S.nd.sublist (List.take_sublist _ _)
   refine ⟨u, rv, ?_⟩
   rcases S.par y (List.mem_of_getElem? hp) with k | k
   . exact .inl ⟨k, D8v ndP hp hu k⟩
   . obtain ⟨c, e⟩ := J5d (n := s.heap.objs.size + 1) k
     refine .inr ⟨.inl k, c, e, ?_⟩
     have q := x.cell y c e
     rw [D9f ndP hp hu (by show scope.names.lookup y ≠ _; rw [k]; decide)] at q
     exact q
 . exact e0.hok.fresh (Nat.le_of_lt (x.above y c (PySem.mem_of_lookup h)))
 unfold B6t
 show _ = N.length
 rw [List.length_append, List.length_map, List.length_replicate]
 omega
theorem Y7e {CX : CXT} {P : Program} {w : World} {K : PySem.W.Frag} {mg : Str -> Option Value} {base : Heap} {k : Nat} {f : Addr} {name qual : Str} {params : Arguments} {body : List Stmt} {scope : Scope} {dV kV doc pm cdv ct oc : Value} {an od : Option Addr}
   {osl : Array (Option Value)} {N ps : List Str} {sp : Sp} (lk : K.lookup f = some ⟨oc, od, .func (PySem.W.fnOf name qual params body scope dV kV doc pm an cdv ct), osl⟩) (hcd : PySem.W.codeIn K cdv qual = true) (S : C5 N ps scope)
   (len : ∀ vs H Q E, sp vs H Q E -> vs.length = ps.length)
   (hbody : ∀ (A : Around) (outer : List Env) (s : Shared) (H : Hp) (vs : List V) (Q : VK) (E : XK), A0m k (A.deeper (envOfC qual scope s.heap.objs.size f cdv)) -> sp vs H Q E ->
     ∃ t, PSs (A1x CX P w K mg base N qual scope f cdv A outer s H E) body t /\ t { nx := fun _ H' => Q .non H', rt := Q } (B6t N vs) H) :
   A8 P w K mg base CX (k + 1) f (PySem.W.fnOf name qual params body scope dV kV doc pm an cdv ct) ps sp := by
 refine ⟨len, fun A outer s H args us vs Q E hr e0 hb r hsp => ?_⟩
 have hl := len _ _ _ _ hsp
 have KX : K.In s.heap := e0.mod.kin.keeps fun b o e => (e0.bs b o e).1
 have lim : s.heap.NoLimit := e0.mod.nolimit.keeps fun b o e => (e0.bs b o e).1
 have hkind : ∀ y ∈ ps.zip us, scope.names.lookup y.1 = some .local \/ (scope.names.lookup y.1 = some .cell /\ ((cellsFrom (s.heap.objs.size + 1) scope.names []).lookup y.1).isSome = true) := fun ⟨n, v⟩ hy => by
   rcases S.par n (List.of_mem_zip hy).1 with q | q
   . exact .inl q
   . exact .inr ⟨q, PySem.W.cellsFrom_some _ _ _ (.inl q)⟩
 refine codeAny_call_function hr.depth (KX _ _ lk) rfl S.co S.gen rfl (PySem.W.codeRec_of KX hcd) (hb _ _ _ _ ?_)
 refine wpAny_newFunctionEnv_cells S.kind hkind fun env he s1 x => ?_
 subst he
 refine ⟨lim.keeps x.toInCall.keep, codeAny_func ?_⟩
 obtain ⟨t, ht, hq⟩ := hbody A outer s H vs Q E (hr.deeper _) hsp
 have I : Inv (A1x CX P w K mg base N qual scope f cdv A outer s H E) [] (B6t N vs) H s1 := V7n S hr.hd e0 hl r x
 refine wpAny_mono (ht [] s1 (B6t N vs) H _ I hq) (fun fl s' hs => ?_) fun e s' hs => hs
 have fin : ∀ {σ' : St} {H' : Hp} {v : V} {u : Value}, Inv (A1x CX P w K mg base N qual scope f cdv A outer s H E) [] σ' H' s' -> V0 v u -> Q v H' -> CE outer P w H s Q u s' :=
   fun {σ' H' v u} J rv q => ⟨v, H', J.os, J.bare, J.base, J.hok, rv, q⟩
 cases fl with
 | ret u =>
   obtain ⟨v, σ', H', J, rv, q⟩ := hs
   exact fin J rv q
 | next =>
   obtain ⟨σ', H', J, q⟩ := hs
   exact fin (v := V.non) (u := Value.none) J rfl q
 | brk =>
   obtain ⟨_, _, _, q⟩ := hs
   exact False.elim q
 | cont =>
   obtain ⟨_, _, _, q⟩ := hs
   exact False.elim q
section
variable {X : Cx} {x : Str} {p pos : Pos} {e : Expr} {es : List Expr} {t : TA} {id T : String} {r : List V -> Hp -> VK -> Prop}
def tCB (r : List V -> Hp -> VK -> Prop) (t : TA) : TE := fun σ H Q => t σ H fun vs H1 => r vs H1 Q
theorem J3 (hc : A6z X (.builtin id) r) (hg : Gl X x) (hm : X.mg x = none) (hv : bootBuiltins x = some (.builtin id)) (ha : PA X (e :: es) t) (hn : x ≠ "__name__" := by decide) (hdb : (x == ("__debug__" : Str)) = false := by decide)
   (he : starEach (e :: es) X.env = (false, eval e X.env) :: starEach es X.env := by rfl) (hpl : (backTo pos (starEach es X.env)).any (·.1) = false := by rfl) : PE X (.Call (.Name x p) (e :: es) [] pos) (tCB r t) := by
 intro pins s σ H Q I h
 refine wpAny_Call_Name_kw (G2f I hg hm hv ?_ hn hdb)
 exact PyProof.Rows.callWith_builtin1 (thn (ha pos pins s σ H _ I h) fun us s1 ⟨vs, H1, I1, r1, q1⟩ => hc pins s1 σ H1 vs us Q I1 r1 q1) he hpl
theorem A0k (hc : A6z X (.type T) r) (hg : Gl X x) (hm : X.mg x = none) (hv : bootBuiltins x = some (.type T)) (ha : PA X (e :: es) t) (hn : x ≠ "__name__" := by decide) (hdb : (x == ("__debug__" : Str)) = false := by decide)
   (he : starEach (e :: es) X.env = (false, eval e X.env) :: starEach es X.env := by rfl) (hpl : (backTo pos (starEach es X.env)).any (·.1) = false := by rfl) : PE X (.Call (.Name x p) (e :: es) [] pos) (tCB r t) := by
 intro pins s σ H Q I h
 refine wpAny_Call_Name_kw (G2f I hg hm hv ?_ hn hdb)
 exact PyProof.Rows.callWith_type1 (thn (ha pos pins s σ H _ I h) fun us s1 ⟨vs, H1, I1, r1, q1⟩ => hc pins s1 σ H1 vs us Q I1 r1 q1) he hpl
end
end L2
namespace HT
open PySem PyProof.Rows
section
open PySem.SeqAt
open PySem.AutoSeq1 (wpAny_loadPart')
open PySem.MeetsSeq PySem.MeetsSeq2 PySem.MeetsSeq3
end
section
variable {prog : Program} {w : World} {A : Around} {E : Value -> Shared -> Prop} {s : Shared}
end
end HT
namespace L2
open PySem PySem.Spec PyProof.Rows
section
variable {X : Cx} {e : Expr} {te : TE} {lo hi : Option Expr} {tl th : TO} {pos p2 : Pos}
end
def ixN (n : Nat) (i : Int) : Option Nat := if 0 <= i then (if i < n then some i.toNat else none) else if -(n : Int) <= i then some (i + n).toNat else none
def atI {α : Type} (xs : List α) (i : Int) : Option α := (ixN xs.length i).bind fun j => xs[j]?
theorem V2t {n : Nat} {i : Int} {j : Nat} (h : ixN n i = some j) : seqIndex? i n = some j /\ j < n /\ -(n : Int) <= i /\ i < n := by
 unfold ixN at h
 by_cases h0 : 0 <= i
 . rw [if_pos h0] at h
   by_cases h1 : i < n
   . rw [if_pos h1] at h
     have e : i.toNat = j := Option.some.inj h
     exact ⟨by rw [seqIndex_of h0 h1, e], by omega, by omega, h1⟩
   . rw [if_neg h1] at h; cases h
 rw [if_neg h0] at h
 by_cases h1 : -(n : Int) <= i
 . rw [if_pos h1] at h
   have e : (i + n).toNat = j := Option.some.inj h
   exact ⟨by rw [seqIndex_neg (by omega) h1, e], by omega, h1, by omega⟩
 rw [if_neg h1] at h; cases h
theorem V3g {α : Type} {xs : List α} {i : Int} {v : α} (h : atI xs i = some v) : ∃ j, seqIndex? i xs.length = some j /\ xs[j]? = some v /\ j < xs.length /\ -(xs.length : Int) <= i /\ i < xs.length := by
 unfold atI at h
 cases e : ixN xs.length i with
 | none => rw [e] at h; cases h
 | some j =>
   rw [e] at h
   obtain ⟨h1, h2, h3, h4⟩ := V2t e
   exact ⟨j, h1, h, h2, h3, h4⟩
theorem B7 {α : Type} {xs : List α} {j : Nat} {v : α} (h : xs[j]? = some v) : atI xs (j : Int) = some v := by
 have hj : j < xs.length := (List.getElem?_eq_some_iff.mp h).1
 have e : ixN xs.length (j : Int) = some j := by
   unfold ixN
   rw [if_pos (by omega), if_pos (by omega)]; simp
 unfold atI; rw [e]; exact h
def A0gp (b : Expr) : Prop := ∀ o i, subscripted b false o i = operate [o, i] (getItem o i)
def IxR (X : Cx) (r : R2) : Prop :=
 ∀ (value slice : Expr) (pins : List (Addr × Obj)) (s : Shared) (σ : St) (H : Hp) (x y : V) (v u : Value) (Q : VK), Inv X pins σ H s -> V0 x v -> V0 y u -> r x y H Q ->
   subscripted slice false v u = operate [v, u] (getItem v u) -> wpAny (model X.prog X.w) X.A (subscriptTail value slice v u) (EP X pins σ Q) X.xe s
def MtR (X : Cx) (id : String) (r : V -> List V -> Hp -> VK -> Prop) : Prop :=
 ∀ (pins : List (Addr × Obj)) (s : Shared) (σ : St) (H : Hp) (x : V) (xs : List V) (v : Value) (us : List Value) (Q : VK), Inv X pins σ H s -> V0 x v -> U2 xs us -> r x xs H Q ->
   wpAny (model X.prog X.w) X.A (call (.builtin id) (v :: us)) (EP X pins σ Q) X.xe s
section
variable {X : Cx} {a b : Expr} {ta tb : TE} {pos : Pos}
theorem D9 {r : R2} (hr : IxR X r) (ha : PE X a ta) (hb : PE X b tb) (hs : A0gp b) : PE X (.Subscript a b pos) (tOp r ta tb) := by
 intro pins s σ H Q I h
 exact Subscript_ (binT ha hb I h fun v u s2 x y H2 I2 rx ry q => hr a b pins s2 σ H2 x y v u Q I2 rx ry q (hs _ _))
def rIxL (K : PySem.W.Frag) : R2 := fun x y H Q => ∃ p xs i v, x = .ref p /\ y = .int i /\ SqL K H p xs /\ atI xs i = some v /\ Q v H
def rIxT (K : PySem.W.Frag) : R2 := fun x y H Q => ∃ p xs i v, x = .ref p /\ y = .int i /\ SqT K H p xs /\ atI xs i = some v /\ Q v H
theorem U6 : IxR X (rIxL X.K) := by
 intro value slice pins s σ H x y v u Q I rx ry h hs
 obtain ⟨p, xs, i, z, rfl, rfl, hq, he, q⟩ := h
 cases rx
 obtain ⟨t, rfl⟩ := ry
 obtain ⟨its, r, pl, hz⟩ := I.list hq
 obtain ⟨j, h1, h2, h3, h4, h5⟩ := V3g he
 obtain ⟨w, ew, rw'⟩ := r.get h2
 have hl := r.length
 have hn := C8u
 have fin : EP X pins σ Q w s := ⟨z, H, I, rw', q⟩
 by_cases h0 : 0 <= i
 . have hj : i.toNat = j := by
     rw [seqIndex_of h0 h5] at h1
     exact Option.some.inj h1
   exact item_listR pl.isList h0 (by omega) (by rw [hj]; simpa using ew) fin hs
 have hj : (i + (its.toArray.size : Int)).toNat = j := by
   rw [seqIndex_neg (by omega) h4] at h1
   rw [List.size_toArray, <- hl]
   exact Option.some.inj h1
 exact subscriptTail_builtinR (x := w) pl.isList.typeIs slot_list_getitem.lookup
   (wpAny_getItem_list_neg (Q := fun r s' => r = w /\ EP X pins σ Q r s') pl.isList (by omega) (by rw [List.size_toArray] <;> omega) (by omega) (by rw [hj]; simpa using ew) ⟨rfl, fin⟩) hs
theorem G3 : IxR X (rIxT X.K) := by
 intro value slice pins s σ H x y v u Q I rx ry h hs
 obtain ⟨p, xs, i, z, rfl, rfl, hq, he, q⟩ := h
 cases rx
 obtain ⟨t, rfl⟩ := ry
 obtain ⟨its, r, pl, hz⟩ := I.tuple hq
 obtain ⟨j, h1, h2, h3, h4, h5⟩ := V3g he
 obtain ⟨w, ew, rw'⟩ := r.get h2
 have hl := r.length
 have hn := C8u
 have fin : EP X pins σ Q w s := ⟨z, H, I, rw', q⟩
 exact subscriptTail_builtinR (x := w) pl.typeIs slot_tuple_getitem.lookup
   (getItem_tuple (j := j) (Q := fun r s' => r = w /\ EP X pins σ Q r s') pl (by omega) (by omega) (by rw [List.size_toArray, <- hl]; exact h1) (by simpa using ew) ⟨rfl, fin⟩) hs
theorem U0j (its : List Value) (n j : Nat) (u : Value) : Obj.mapSeq (·.setIfInBounds j u) { cls := .type "list", data := .seq its.toArray n } = { cls := .type "list", data := .seq (its.set j u).toArray n } := by
 simp [Obj.mapSeq]
theorem Inv.lst {pins : List (Addr × Obj)} {σ : St} {H : Hp} {s : Shared} {p : Addr} {xs : List V} (I : Inv X pins σ H s) (h : H p = some (.lst xs)) :
   ∃ (its : List Value) (n : Nat), U2 xs its /\ s.heap.get? p = some { cls := .type "list", data := .seq its.toArray n } /\ xs.length <= sizeLine := by
 obtain ⟨z, its, n, r, e⟩ := I.hok p _ h
 exact ⟨its, n, r, e, z⟩
theorem Inv.lstUpd {pins : List (Addr × Obj)} {σ : St} {H : Hp} {s : Shared} {p : Addr} {xs ys : List V} {its its' : List Value} {n n' : Nat} {f : Obj -> Obj} (I : Inv X pins σ H s) (h : H p = some (.lst xs))
   (ho : s.heap.get? p = some { cls := .type "list", data := .seq its.toArray n }) (hf : f { cls := .type "list", data := .seq its.toArray n } = { cls := .type "list", data := .seq its'.toArray n' }) (r : U2 ys its') (hz : ys.length <= sizeLine) (t : Nat) :
   Inv X pins σ (upd H p (.lst ys)) { s with heap := s.heap.update p f, toks := t } := by
 have e : (s.heap.update p f).get? p = some { cls := .type "list", data := .seq its'.toArray n' } := by
   rw [Heap.get?_update_self f ho (by rw [hf] <;> rfl), hf]
 refine I.write (x := p) (e := p) (by rw [h]; trivial) (.inl rfl) (fun b u hb q => (Heap.get?_update_other _ _ (Ne.symm hb)).trans q) ⟨_, e⟩ ?_
 exact ⟨hz, its', n', r, e⟩
def A0xy : V -> V -> V -> Hp -> (Hp -> Prop) -> Prop := fun o i v H Q => ∃ p xs k j, o = .ref p /\ i = .int k /\ H p = some (.lst xs) /\ ixN xs.length k = some j /\ Q (upd H p (.lst (xs.set j v)))
theorem D0b : PSet X A0xy := by
 intro pins s σ H o i v ov iv u Q I ro ri rv h
 obtain ⟨p, xs, k, j, rfl, rfl, hp, hj, q⟩ := h
 cases ro
 obtain ⟨t, rfl⟩ := ri
 obtain ⟨its, n, r, ho, hz⟩ := I.lst hp
 obtain ⟨h1, h2, h3, h4⟩ := V2t hj
 have hl := r.length
 have hn := C8u
 have I' : Inv X pins σ (upd H p (.lst (xs.set j v))) { s with heap := s.heap.update p (Obj.mapSeq (·.setIfInBounds j u)) } :=
   I.lstUpd hp ho (U0j its n j u) (r.set rv j) (by rw [List.length_set]; exact hz) s.toks
 by_cases h0 : 0 <= k
 . have hk : k.toNat = j := by
     rw [seqIndex_of h0 h4] at h1
     exact Option.some.inj h1
   exact PySem.W.ki_setAt ho h0 (by omega) (by rw [List.size_toArray, <- hl]; exact h4) (by rw [hk]; exact ⟨_, I', q⟩)
 have hk : (k + (its.toArray.size : Int)).toNat = j := by
   rw [seqIndex_neg (by omega) h3] at h1
   rw [List.size_toArray, <- hl]
   exact Option.some.inj h1
 exact PySem.W.ki_setBack ho (by omega) (by rw [List.size_toArray, <- hl]; exact h3) (by omega) (by rw [hk]; exact ⟨_, I', q⟩)
def C0d : V -> Bool
 | .non => true
 | .bl _ => true
 | .int _ => true
 | .str _ => true
 | _ => false
def eqV : V -> V -> Bool
 | .non, .non => true
 | .bl a, .bl b => a == b
 | .bl a, .int b => (if a then 1 else 0) == b
 | .int a, .bl b => a == (if b then 1 else 0)
 | .int a, .int b => a == b
 | .str a, .str b => a == b
 | _, _ => false
theorem A0tf {A : Around} {s : Shared} {y x : V} {u v : Value} (ry : V0 y u) (rx : V0 x v) (fy : C0d y = true) (fx : C0d x = true) : SeqAt.EqAt A s u v (eqV y x) := by
 cases y with
 | non =>
   cases ry
   cases x with
   | non => cases rx; exact SeqAt.EqAt.same _
   | bl b => cases rx; exact SeqAt.EqAt.none_bool b
   | int b => obtain ⟨t, rfl⟩ := rx; exact SeqAt.EqAt.none_int b t
   | str b => obtain ⟨t, rfl⟩ := rx; exact SeqAt.EqAt.none_str b t
   | _ => exact absurd (show false = true from fx) Bool.false_ne_true
 | bl a =>
   cases ry
   cases x with
   | non => cases rx; exact SeqAt.EqAt.bool_none a
   | bl b => cases rx; exact SeqAt.EqAt.bool_bool a b
   | int b => obtain ⟨t, rfl⟩ := rx; exact SeqAt.EqAt.bool_int a b t
   | str b => obtain ⟨t, rfl⟩ := rx; exact SeqAt.EqAt.bool_str a b t
   | _ => exact absurd (show false = true from fx) Bool.false_ne_true
 | int a =>
   obtain ⟨t', rfl⟩ := ry
   cases x with
   | non => cases rx; exact SeqAt.EqAt.int_none a t'
   | bl b => cases rx; exact SeqAt.EqAt.int_bool a t' b
   | int b => obtain ⟨t, rfl⟩ := rx; exact SeqAt.EqAt.int_int a t' b t
   | str b => obtain ⟨t, rfl⟩ := rx; exact SeqAt.EqAt.int_str a t' b t
   | _ => exact absurd (show false = true from fx) Bool.false_ne_true
 | str a =>
   obtain ⟨t', rfl⟩ := ry
   cases x with
   | non => cases rx; exact SeqAt.EqAt.str_none a t'
   | bl b => cases rx; exact SeqAt.EqAt.str_bool a t' b
   | int b => obtain ⟨t, rfl⟩ := rx; exact SeqAt.EqAt.str_int a t' b t
   | str b => obtain ⟨t, rfl⟩ := rx; exact SeqAt.EqAt.str_str a t' b t
   | _ => exact absurd (show false = true from fx) Bool.false_ne_true
 | _ => exact absurd (show false = true from fy) Bool.false_ne_true
def eqU (x : V) (u : Value) : Bool := match u with
 | .none => eqV .non x
 | .bool b => eqV (.bl b) x
 | .int i _ => eqV (.int i) x
 | .str z _ => eqV (.str z) x
 | _ => false
theorem Y4e {x y : V} {u : Value} (r : V0 y u) (f : C0d y = true) : eqU x u = eqV y x := by
 cases y with
 | non => cases r; rfl
 | bl b => cases r; rfl
 | int i => obtain ⟨t, rfl⟩ := r; rfl
 | str z => obtain ⟨t, rfl⟩ := r; rfl
 | _ => exact absurd (show false = true from f) Bool.false_ne_true
theorem B9y {x : V} : ∀ {xs : List V} {us : List Value}, U2 xs us -> xs.all C0d = true -> us.any (eqU x) = xs.any fun y => eqV y x
 | _, _, .nil, _ => rfl
 | y :: xs, u :: us, .cons r t, f => by
   rw [List.all_cons, Bool.and_eq_true] at f
   rw [List.any_cons, List.any_cons, Y4e r f.1, B9y t f.2]
theorem B1f {A : Around} {s : Shared} {x : V} {v : Value} (rx : V0 x v) (fx : C0d x = true) : ∀ {xs : List V} {us : List Value}, U2 xs us -> xs.all C0d = true -> ∀ u ∈ us, SeqAt.EqAt A s u v (eqU x u)
 | _, _, .nil, _ => fun u hu => by cases hu
 | y :: xs, u :: us, .cons r t, f => fun u' hu => by
   rw [List.all_cons, Bool.and_eq_true] at f
   rcases List.mem_cons.mp hu with rfl | hu
   . rw [Y4e r f.1]; exact A0tf r rx f.1 fx
   . exact B1f rx fx t f.2 u' hu
def inV (x : V) (xs : List V) : Bool := xs.any fun y => eqV y x
def rIn (K : PySem.W.Frag) (neg : Bool) : R2 := fun x y H Q => ∃ p xs, y = .ref p /\ (SqL K H p xs \/ SqT K H p xs) /\ C0d x = true /\ xs.all C0d = true /\ Q (.bl (if neg then !inV x xs else inV x xs)) H
theorem A4c : OpR X (compareOp .In) (rIn X.K false) := by
 intro pins s σ H x y v u Q I rx ry h
 obtain ⟨p, xs, rfl, hq, fx, fs, q⟩ := h
 cases ry
 rcases hq with hq | hq
 . obtain ⟨its, r, pl, hz⟩ := I.list hq
   refine SeqAt.in_listAt (eqU x) pl.isList (fun w hw => B1f rx fx r fs w (by simpa using hw)) ⟨.bl _, H, I, rfl, ?_⟩
   rw [show its.toArray.any (eqU x) = its.any (eqU x) by simp, B9y r fs]
   exact q
 obtain ⟨its, r, pl, hz⟩ := I.tuple hq
 refine SeqAt.in_tupleAt (eqU x) pl (fun w hw => B1f rx fx r fs w (by simpa using hw)) ⟨.bl _, H, I, rfl, ?_⟩
 rw [show its.toArray.any (eqU x) = its.any (eqU x) by simp, B9y r fs]
 exact q
theorem G1w : OpR X (compareOp .NotIn) (rIn X.K true) := by
 intro pins s σ H x y v u Q I rx ry h
 obtain ⟨p, xs, rfl, hq, fx, fs, q⟩ := h
 cases ry
 rcases hq with hq | hq
 . obtain ⟨its, r, pl, hz⟩ := I.list hq
   refine SeqAt.notIn_listAt (eqU x) pl.isList (fun w hw => B1f rx fx r fs w (by simpa using hw)) ⟨.bl _, H, I, rfl, ?_⟩
   rw [show its.toArray.any (eqU x) = its.any (eqU x) by simp, B9y r fs]
   exact q
 obtain ⟨its, r, pl, hz⟩ := I.tuple hq
 refine SeqAt.notIn_tupleAt (eqU x) pl (fun w hw => B1f rx fx r fs w (by simpa using hw)) ⟨.bl _, H, I, rfl, ?_⟩
 rw [show its.toArray.any (eqU x) = its.any (eqU x) by simp, B9y r fs]
 exact q
theorem G1x : A6z X (.builtin "len") (fun xs H Q => ∃ p ys, xs = [.ref p] /\ (SqL X.K H p ys \/ SqT X.K H p ys) /\ Q (.int ys.length) H) := by
 intro pins s σ H xs us Q I r h
 obtain ⟨p, ys, rfl, hq, q⟩ := h
 obtain ⟨u, rfl, rx⟩ := D0a r
 cases rx
 have hn := C8u
 rcases hq with hq | hq
 . obtain ⟨its, r', pl, hz⟩ := I.list hq
   have hlen := r'.length
   exact Calls.call_len_list pl.isList (by simp only [List.size_toArray] <;> omega) ⟨.int ys.length, H, I.tok _, ⟨s.toks + 1, by rw [List.size_toArray, hlen]⟩, q⟩
 obtain ⟨its, r', pl, hz⟩ := I.tuple hq
 have hlen := r'.length
 exact len_tuple pl (by simp only [List.size_toArray] <;> omega) ⟨.int ys.length, H, I.tok _, ⟨s.toks + 1, by rw [List.size_toArray, hlen]⟩, q⟩
theorem G2j : A6z X (.builtin "len") (fun xs H Q => ∃ z, xs = [.str z] /\ z.length <= sizeLine /\ Q (.int z.length) H) := by
 intro pins s σ H xs us Q I r h
 obtain ⟨z, rfl, hz, q⟩ := h
 obtain ⟨u, rfl, t, rfl⟩ := D0a r
 have hn := C8u
 exact len_str (by omega) ⟨.int z.length, H, I.tok _, ⟨_, rfl⟩, q⟩
theorem G2h : A6z X (.type "list") (fun xs H Q => ∃ p ys, xs = [.ref p] /\ (SqL X.K H p ys \/ SqT X.K H p ys) /\ ∀ l, H l = none -> Q (.ref l) (upd H l (.lst ys))) := by
 intro pins s σ H xs us Q I r h
 obtain ⟨p, ys, rfl, hq, q⟩ := h
 obtain ⟨u, rfl, rx⟩ := D0a r
 cases rx
 have fin : ∀ (its : List Value), U2 ys its -> ys.length <= sizeLine -> ∀ (h' : Heap) (c' : Nat), (∀ b o', s.heap.get? b = some o' -> h'.get? b = some o') ->
     h'.get? s.heap.objs.size = some { cls := .type "list", dict := none, data := .seq its.toArray c', slots := #[] } -> EP X pins σ Q (.ref s.heap.objs.size) { s with heap := h' } := fun its r' hz h' c' kp e =>
   ⟨.ref s.heap.objs.size, _, I.laid (t' := s.toks) kp (Nat.le_refl _) (show A0g X.prog X.w _ h' _ (.lst ys) from ⟨hz, its, c', r', e⟩), rfl, q _ (I.hok.fresh (Nat.le_refl _))⟩
 rcases hq with hq | hq
 . obtain ⟨its, r', pl, hz⟩ := I.list hq
   have hlen := r'.length
   obtain ⟨o, ho, hc, n, hd⟩ := pl.isList
   exact call_list_seq p (.inl rfl) ho hc hd (fun h' c' kp e => fin its r' hz h' c' kp e) (by simp only [List.size_toArray] <;> omega)
 obtain ⟨its, r', pl, hz⟩ := I.tuple hq
 have hlen := r'.length
 obtain ⟨o, ho, hc, n, hd⟩ := pl
 exact call_list_seq p (.inr rfl) ho hc hd (fun h' c' kp e => fin its r' hz h' c' kp e) (by simp only [List.size_toArray] <;> omega)
def tyV (K : PySem.W.Frag) (T : String) (x : V) (H : Hp) : Prop := match x with
 | .str _ => T = "str"
 | .int _ => T = "int"
 | .ref p => (T = "list" /\ ∃ xs, SqL K H p xs) \/ (T = "tuple" /\ ∃ o, K.lookup p = some o /\ o.cls = .type "tuple" /\ o.dict = none) \/
     (T = "dict" /\ ((∃ kvs, H p = some (.dK kvs)) \/ ∃ kvs, H p = some (.dT kvs))) \/ (T = "set" /\ ∃ S n, H p = some (.set S n))
 | _ => False
theorem Y5s {pins : List (Addr × Obj)} {σ : St} {H : Hp} {s : Shared} {T : String} {x : V} {v : Value} (I : Inv X pins σ H s) (r : V0 x v) (ty : tyV X.K T x H) :
   s.TypeIs v T /\ ∀ a, v = .ref a -> ∃ ob, s.heap.get? a = some ob /\ ob.dict = none := by
 cases x with
 | str z =>
   obtain ⟨t, rfl⟩ := r
   cases (show T = "str" from ty)
   exact ⟨typeIs_str s z t, fun _ e => nomatch e⟩
 | int i =>
   obtain ⟨t, rfl⟩ := r
   cases (show T = "int" from ty)
   exact ⟨typeIs_int s i t, fun _ e => nomatch e⟩
 | ref p =>
   cases r
   rcases ty with ⟨rfl, xs, hq⟩ | ⟨rfl, o, hk, hc, hd⟩ | ⟨rfl, hk⟩ | ⟨rfl, S, n, hk⟩
   . obtain ⟨its, _, pl, _⟩ := I.list hq
     refine ⟨pl.isList.typeIs, fun a e => ?_⟩
     cases e
     obtain ⟨o, n, e, c, hd, _⟩ := pl
     exact ⟨o, e, hd⟩
   . refine ⟨⟨o, I.kIn p o hk, hc⟩, fun a e => ?_⟩
     cases e
     exact ⟨o, I.kIn _ o hk, hd⟩
   . have z : ∃ o, s.heap.get? p = some o /\ o.ExactDict := by
       rcases hk with ⟨kvs, hk⟩ | ⟨kvs, hk⟩
       . obtain ⟨_, _, _, _, o, _, _, e, ex, _⟩ := I.hok p _ hk
         exact ⟨o, e, ex⟩
       . obtain ⟨_, _, _, _, o, _, _, e, ex, _⟩ := I.hok p _ hk
         exact ⟨o, e, ex⟩
     obtain ⟨o, e, ex⟩ := z
     refine ⟨⟨o, e, ex.1⟩, fun a e2 => ?_⟩
     cases e2
     exact ⟨o, e, ex.2.1⟩
   . obtain ⟨o, _, _, _, e, ex, _⟩ := I.hok p _ hk
     refine ⟨⟨o, e, ex.1⟩, fun a e2 => ?_⟩
     cases e2
     exact ⟨o, e, ex.2.1⟩
 | _ => exact False.elim ty
def tBM0 (K : PySem.W.Frag) (T : String) (r : V -> List V -> Hp -> VK -> Prop) (to : TE) : TE := fun σ H Q => to σ H fun x H1 => tyV K T x H1 /\ r x [] H1 Q
def tBM (K : PySem.W.Frag) (T : String) (r : V -> List V -> Hp -> VK -> Prop) (to : TE) (t : TA) : TE := fun σ H Q => to σ H fun x H1 => tyV K T x H1 /\ t σ H1 fun xs H2 => r x xs H2 Q
variable {o e : Expr} {es : List Expr} {to : TE} {t : TA} {name : Str} {apos cpos : Pos} {T id : String} {r : V -> List V -> Hp -> VK -> Prop}
theorem Y4v (pa : PlainAttrs T) (slot : Slot T name id) (hty : typeOf (.builtin id) = pure (.type "method_descriptor")) (hm : MtR X id r) (ho : PE X o to)
   (hbase : attributeBase o name X.env (eval o X.env) = eval o X.env := by rfl) (hline : (apos.endLine == cpos.line) = true := by rfl) : PE X (.Call (.Attribute o name apos) [] [] cpos) (tBM0 X.K T r to) := by
 intro pins s σ H Q I h
 refine wpAny_Call_method0_late hbase hline (thn (ho pins s σ H _ I h) fun v s1 ⟨x, H1, I1, r1, ty, q1⟩ => ?_)
 obtain ⟨h1, h2⟩ := Y5s I1 r1 ty
 exact ⟨T, id, pa, slot, hty, h1, h2, Calls.callWith_builtin rfl (PySem.evalArgs_none (hm pins s1 σ H1 x [] v [] Q I1 r1 .nil q1))⟩
theorem A0ys (pa : PlainAttrs T) (slot : Slot T name id) (hty : typeOf (.builtin id) = pure (.type "method_descriptor")) (hm : MtR X id r) (ho : PE X o to) (ha : PA X (e :: es) t)
   (hbase : attributeBase o name X.env (eval o X.env) = eval o X.env := by rfl)
   (hfew : ((backTo cpos (starEach (e :: es) X.env)).all (fun x => !x.1) && (backToKw cpos (keywordEach [] X.env)).all (fun x => x.1.isSome)
     && decide ((e :: es).length + ([] : List Keyword).length + (if ([] : List Keyword).isEmpty then 0 else 1) < 30)) = true := by rfl)
   (hline : (apos.endLine == cpos.line) = true := by rfl) (hs : starEach (e :: es) X.env = (false, eval e X.env) :: starEach es X.env := by rfl) (hplain : (backTo cpos (starEach es X.env)).any (·.1) = false := by rfl) :
   PE X (.Call (.Attribute o name apos) (e :: es) [] cpos) (tBM X.K T r to t) := by
 intro pins s σ H Q I h
 refine wpAny_Call_method_late hbase hfew hline rfl (thn (ho pins s σ H _ I h) fun v s1 ⟨x, H1, I1, r1, ty, q1⟩ => ?_)
 obtain ⟨h1, h2⟩ := Y5s I1 r1 ty
 refine ⟨T, id, pa, slot, hty, h1, h2, ?_⟩
 have hA := ha cpos pins s1 σ H1 _ I1 q1
 rw [hs] at hA ⊢
 refine Calls.callWith_builtin (by show (false || (backTo cpos (starEach es X.env)).any (·.1)) = false; rw [hplain] <;> rfl) (Calls.evalArgs_plain ?_)
 exact thn hA fun us s2 ⟨vs, H2, I2, r2, q2⟩ => hm pins s2 σ H2 x vs v us Q I2 r1 r2 q2
end
def MtM (X : Cx) (id : String) (r : V -> List V -> Hp -> VK -> Prop) : Prop :=
 ∀ (pins : List (Addr × Obj)) (s : Shared) (σ : St) (H : Hp) (x : V) (xs : List V) (v : Value) (us : List Value) (Q : VK), Inv X pins σ H s -> V0 x v -> U2 xs us -> r x xs H Q ->
   wpAny (model X.prog X.w) X.A (call (.builtin id) (v :: us)) (EP X pins σ Q) X.xe s
theorem U2.one : ∀ {x : V} {us : List Value}, U2 [x] us -> ∃ u, us = [u] /\ V0 x u
 | _, _, .cons r .nil => ⟨_, rfl, r⟩
theorem U2.two : ∀ {x y : V} {us : List Value}, U2 [x, y] us -> ∃ u v, us = [u, v] /\ V0 x u /\ V0 y v
 | _, _, _, .cons r (.cons q .nil) => ⟨_, _, rfl, r, q⟩
theorem U2.rep {xs : List V} {us : List Value} (h : U2 xs us) : ∀ k : Nat, U2 (List.replicate k xs).flatten (List.replicate k us).flatten
 | 0 => .nil
 | k + 1 => by
   rw [List.replicate_succ, List.replicate_succ, List.flatten_cons, List.flatten_cons]
   exact U2.append h (U2.rep h k)
theorem G0b (its : List Value) : ∀ (k : Nat) (acc : List Value),
   List.foldl (fun x1 x2 => x1 ++ x2) acc.toArray (List.replicate k its.toArray) = (acc ++ (List.replicate k its).flatten).toArray
 | 0, acc => by simp
 | k + 1, acc => by
   have e : acc.toArray ++ its.toArray = (acc ++ its).toArray := by simp
   have e2 : (acc ++ its) ++ (List.replicate k its).flatten = acc ++ (List.replicate (k + 1) its).flatten := by
     rw [List.replicate_succ, List.flatten_cons, List.append_assoc]
   rw [<- e2, <- G0b its k (acc ++ its), <- e, List.replicate_succ, List.foldl_cons]
section
variable {X : Cx} {pins : List (Addr × Obj)} {σ : St} {H : Hp} {s : Shared} {l b : Addr} {xs ys zs : List V}
theorem Inv.lset {its its' : List Value} {n : Nat} {f : Array Value -> Array Value} {t' : Nat} (I : Inv X pins σ H s) (hH : H l = some (.lst xs))
   (e : s.heap.get? l = some { cls := .type "list", data := .seq its.toArray n }) (hf : f its.toArray = its'.toArray) (hv : U2 ys its') (hz : ys.length <= sizeLine) :
   Inv X pins σ (upd H l (.lst ys)) { s with heap := s.heap.update l (Obj.mapSeq f), toks := t' } := by
 have q := PySem.IsL.update e f
 rw [hf] at q
 refine I.write (x := l) (e := l) (by rw [hH]; exact trivial) (.inl rfl) (fun b' u hb hu => (Heap.get?_update_other s.heap (Obj.mapSeq f) (Ne.symm hb)).trans hu) ⟨_, q⟩ ?_
 exact ⟨hz, its', _, hv, q⟩
theorem Inv.lnew {its : List Value} {t' : Nat} (I : Inv X pins σ H s) (hv : U2 ys its) (hz : ys.length <= sizeLine) :
   Inv X pins σ (upd H s.heap.objs.size (.lst ys)) { s with heap := s.heap.push { cls := .type "list", data := .seq its.toArray }, toks := t' } :=
 I.laid (fun _ _ q => Heap.get?_push_of_some _ q) (Nat.le_refl _) ⟨hz, its, 0, hv, Heap.get?_push_size _ rfl⟩
theorem Inv.fresh (I : Inv X pins σ H s) : H s.heap.objs.size = none := I.hok.fresh (Nat.le_refl _)
theorem Inv.lstM (I : Inv X pins σ H s) (hH : H l = some (.lst xs)) : xs.length <= sizeLine /\ ∃ (its : List Value) (n : Nat), U2 xs its /\ xs.length = its.length /\ s.heap.get? l = some { cls := .type "list", data := .seq its.toArray n } := by
 obtain ⟨z, its, n, r, e⟩ := I.hok l _ hH
 exact ⟨z, its, n, r, r.length, e⟩
theorem Y8e {n : Nat} (h : n <= sizeLine) : Builtin.List.listTooLong n = false := by
 unfold Builtin.List.listTooLong
 exact decide_eq_false (by omega)
end
section
variable {X : Cx}
def A0jr : V -> List V -> Hp -> VK -> Prop := fun x vs H Q => ∃ l xs y, x = .ref l /\ vs = [y] /\ H l = some (.lst xs) /\ xs.length < sizeLine /\ Q .non (upd H l (.lst (xs ++ [y])))
theorem B5t : MtM X "list.append" A0jr := by
 intro pins s σ H x vs v us Q I rx rv h
 obtain ⟨l, xs, y, rfl, rfl, hH, hz, q⟩ := h
 cases rx
 obtain ⟨u, rfl, ru⟩ := rv.one
 obtain ⟨z, its, n, r, hl, e⟩ := I.lstM hH
 refine call_meets F.slot_list_append ⟨_, e, rfl⟩ F.entry_list_append (F.args_list_append_2 _ _) (PySem.list_append l its.toArray n u (by rw [List.size_toArray]; omega)) ⟨e, ?_⟩
 refine ⟨.non, _, I.lset (its' := its ++ [u]) hH e (by simp) (r.append (.cons ru .nil)) ?_, rfl, q⟩
 rw [List.length_append, List.length_singleton]
 omega
def rCat : R2 := fun x y H Q => ∃ l b xs zs, x = .ref l /\ y = .ref b /\ H l = some (.lst xs) /\ H b = some (.lst zs) /\ xs.length + zs.length <= sizeLine /\ ∀ p, H p = none -> Q (.ref p) (upd H p (.lst (xs ++ zs)))
theorem G2g : OpR X (binaryOp .Add) rCat := by
 intro pins s σ H x y v u Q I rx ry h
 obtain ⟨l, b, xs, zs, rfl, rfl, hH, hB, hz, q⟩ := h
 cases rx
 cases ry
 obtain ⟨z, its, n, r, hl, e⟩ := I.lstM hH
 obtain ⟨z2, its2, n2, r2, hl2, e2⟩ := I.lstM hB
 refine PySem.P.add_list e e2 ?_ (by rw [List.size_toArray, List.size_toArray]; omega)
 have ea : its.toArray ++ its2.toArray = (its ++ its2).toArray := by simp
 rw [ea]
 exact ⟨.ref _, _, I.lnew (t' := s.toks) (r.append r2) (by rw [List.length_append]; omega), rfl, q _ I.fresh⟩
def rRep : R2 := fun x y H Q => ∃ l k xs, x = .ref l /\ y = .int k /\ H l = some (.lst xs) /\ -(2 ^ 63) <= k /\ k < 2 ^ 63 /\ xs.length * k.toNat <= sizeLine /\
 ∀ p, H p = none -> Q (.ref p) (upd H p (.lst (List.replicate k.toNat xs).flatten))
theorem A0hv {α : Type} (xs : List α) (k : Nat) : (List.replicate k xs).flatten.length = k * xs.length := by
 induction k with
 | zero => simp
 | succ k ih => rw [List.replicate_succ, List.flatten_cons, List.length_append, ih, Nat.succ_mul, Nat.add_comm]
theorem Y5n : OpR X (binaryOp .Mult) rRep := by
 intro pins s σ H x y v u Q I rx ry h
 obtain ⟨l, k, xs, rfl, rfl, hH, h1, h2, hz, q⟩ := h
 cases rx
 obtain ⟨t, rfl⟩ := ry
 obtain ⟨z, its, n, r, hl, e⟩ := I.lstM hH
 have hlen : its.toArray.size * k.toNat <= sizeLine := by rw [List.size_toArray, <- hl]; exact hz
 have hcap : ¬ its.toArray.size * k.toNat > (2 ^ 63 - 1) / 8 := by
   have : (sizeLine : Nat) <= (2 ^ 63 - 1) / 8 := by decide
   omega
 have hfit : ¬ (!Builtin.List.listFitsIndex k) = true := by
   rw [fitsIndex_both h1 h2]
   exact Bool.false_ne_true
 have hlong : ¬ Builtin.List.listTooLong (its.toArray.size * k.toNat) = true := by
   rw [Y8e hlen]
   exact Bool.false_ne_true
 have hnew : List.foldl (fun x1 x2 => x1 ++ x2) #[] (List.replicate (if its.toArray.isEmpty = true then 0 else k.toNat) its.toArray) = (List.replicate k.toNat its).flatten.toArray := by
   have f0 : ∀ m : Nat, List.foldl (fun x1 x2 => x1 ++ x2) #[] (List.replicate m its.toArray) = (List.replicate m its).flatten.toArray := fun m => by
     have := G0b its m []
     rw [List.nil_append] at this
     exact this
   rw [f0]
   cases its with
   | nil => simp
   | cons a r' => rw [if_neg (by simp)]
 refine wpAny_binaryOp_repeat_ref (T := "list") (U := "int") (by decide) ⟨_, e, rfl⟩ (fun s' => typeIs_int s' k t) noFill_list_mul F.fills_int_mul F.slot_int_rmul repeat_list F.slot_int_index.lookup
   (call_meets F.slot_int_rmul (typeIs_int s k t) F.entry_int_rmul (F.args_int_rmul_2 _ _) (int___rmul___int_list k t l its.toArray n)
     ⟨e, rfl, ⟨_, e, rfl⟩, call_meets F.slot_list_mul ⟨_, e, rfl⟩ F.entry_list_mul (F.args_list_mul_2 _ _) (AutoListH.list___mul___list_int_3 l its.toArray n k t hfit hcap hlong) ⟨e, ?_⟩⟩)
 rw [hnew]
 exact ⟨.ref _, _, I.lnew (t' := s.toks) (r.rep k.toNat) (by rw [A0hv, Nat.mul_comm]; exact hz), rfl, q _ I.fresh⟩
end
section
variable {prog : Program} {w : World} {A : Around} {E : Value -> Shared -> Prop} {s : Shared}
end
section
variable {X : Cx}
end
end L2
namespace Att
open PySem PySem.W PySem.Calls PyProof.Rows
theorem C7d {P : Params} {h : Heap} : ∀ (ns : List Int) (vs : List Value), WellAll P h vs (ns.map WData.int) -> IntsAre vs ns := by
 intro ns
 induction ns with
 | nil =>
   intro vs w
   rw [List.map_nil] at w
   cases w
   exact .nil
 | cons n ns ih =>
   intro vs w
   rw [List.map_cons] at w
   cases w with
   | cons a b =>
     cases a
     exact .cons _ _ (ih _ b)
theorem V6u {l : OpenLaw} {n : Nat} (hn : l.most = some n) {P : Params} {h : Heap} {args : List WData} {vals : List Value}
   (hpre : l.row.toRowW.claim.pre args = true) (hwl : WellAll P h vals args) :
   ∃ a vs ns, vals = [Value.ref a] /\ args = [WData.list (ns.map WData.int)] /\ h.get? a = some { cls := .type "list", data := .seq vs.toArray } /\ IntsAre vs ns /\ ns.length <= n := by
 have hsh : WShape.hasAll [] args [.list .int] = true := (pre_splitW hpre).1
 have hc : l.pre.holds [] { args := args } = true := (pre_splitW hpre).2
 obtain ⟨d, r, rfl, h1, h2⟩ := hasAllW_cons hsh
 obtain rfl := hasAllW_nil h2
 obtain ⟨xs, rfl, h3⟩ := hasW_list h1
 obtain ⟨ns, rfl⟩ := items_int h3
 have hlen : ns.length <= n := by
   unfold OpenLaw.pre at hc
   have h4 : (WTm.not (.lt (.lit (.int (n : Int))) (.len (.arg 0)))).holds [] { args := [.list (ns.map .int)] } = true := by
     have h4 := (holds_andW hc).1
     rw [hn] at h4
     exact h4
   have h5 := condW_of h4 (w_not (w_lt w_lit (w_len_list (w_arg rfl))))
   rw [List.length_map] at h5
   refine Nat.le_of_not_lt fun q => ?_
   have q' : (n : Int) < ((ns.length : Nat) : Int) := by omega
   first
     | (rw [decide_eq_true q'] at h5; exact absurd h5 (by decide))
     | (simp at h5; omega)
 cases hwl with
 | cons w1 w2 =>
   cases w2
   cases w1 with
   | list ho hall => exact ⟨_, _, ns, rfl, rfl, ho, C7d ns _ hall, hlen⟩
theorem V6n (l : OpenLaw) (args : List WData) : l.row.toRowW.claim.post args (.bool true) args = true :=
 postW_of (r := l.row.toRowW) (X := (true == true))
   (show WShape.has [] (.bool true) .bool = true by first | rfl | decide | simp [WShape.has, WShape.arms, WShape.armsAll])
   (show (WTm.eq .res (.lit (.bool true))).value [] { args := args, res := some (.bool true), after := args } = some (.bool (true == true)) from w_eq_bool (w_res rfl) w_lit) rfl
theorem attach_call {l : OpenLaw} {n : Nat} {q : Program} {loose : List Str} {XP : (Str -> Option Value) -> Heap -> Prop} {YP : World -> Heap -> Prop} {d : DefRec}
   (hn : l.most = some n) (hdf : d.params.defaults = [])
   (call : ∀ (w : World) (s₀ s₁ : Shared) (mg mb : Str -> Option Value) (fa : Addr) (o : Obj) (pm cd doc : Value) (a : Addr) (vs : List Value) (ns : List Int),
     Ground q loose [] XP w s₀ mg mb s₁.heap -> YP w s₁.heap ->
     s₁.heap.get? fa = some o -> o.data = .func (docDef d.name d.params d.body d.scope pm cd doc) -> s₁.heap.CodeRec cd d.name -> mg d.name = some (.ref fa) ->
     s₁.heap.get? a = some { cls := .type "list", data := .seq vs.toArray } -> IntsAre vs ns -> ns.length <= n -> s₁.gens = #[] ->
     codeAny (model l.prog w) callerA (.call (.ref fa) ⟨[.ref a], []⟩) (fun r s' => r = .ok (.ret (.bool true)) /\ OldK s₁.heap s'.heap /\ s'.os = s₁.os /\ AllBare s'.gens) s₁) :
   WalkO q loose XP YP l.row.toRowW d [] (fun f vs => PySem.call f vs) := by
 intro w s₀ s₁ mg mb G Y fa o pm cd doc dV kV ho hd hcd hD hmg hg args vals as hpre hlay hrd hwl hlo
 obtain rfl : dV = .none := Dflts.none hD hdf
 obtain rfl : kV = .none := Dflts.noKw hD
 obtain ⟨a, vs, ns, rfl, rfl, hobj, hints, hlen⟩ := V6u hn hpre hwl
 refine enter_call (codeAny_mono (call w s₀ s₁ mg mb fa o pm cd doc a vs ns G Y ho (fd_plain hd) hcd hmg hobj hints hlen hg) fun r s' hq => ?_)
 obtain ⟨rfl, h2, h3, h4⟩ := hq
 exact ⟨.inl ⟨.bool true, .bool true, [], rfl, fun _ => rfl, .bool true, V6n l _, fun _ => ⟨List.Pairwise.nil, fun _ hm => (nomatch hm)⟩⟩, h2, h3, h4⟩
section
variable {prog : Program} {w : World} {A : Around} {E : Value -> Shared -> Prop} {s : Shared} {K : Frag}
end
end Att
namespace L2
open PySem PySem.Spec PyProof.Rows
theorem D9w : ∀ {vs : List Value} {ns : List Int}, IntsAre vs ns -> U2 (ns.map V.int) vs
 | _, _, .nil => .nil
 | _, _, .cons n t h => .cons ⟨t, rfl⟩ (D9w h)
def Only (H : Hp) : Prop := ∀ b, H b = none \/ ∃ o xs, H b = some (.frz o (.lst xs))
theorem Y6u {P : Program} {w : World} {K : PySem.W.Frag} {mg mb : Str -> Option Value} {CX : CXT} {k : Nat} {fa a : Addr} {fd : FuncData} {x : Str} {sp : Sp} {s₁ : Shared} {vs : List Value} {ns : List Int}
   (KX : K.In s₁.heap) (hns : s₁.heap.Ns mainGlobals mg) (hb : s₁.heap.Ns builtinsNs mb) (hbb : ∀ x : Str, x ≠ "__name__" -> mb x = bootBuiltins x) (hlim : s₁.heap.NoLimit) (hg : s₁.gens = #[])
   (ha : s₁.heap.get? a = some { cls := .type "list", data := .seq vs.toArray }) (hi : IntsAre vs ns) (hl : ns.length <= sizeLine) (hr : A0m k callerA)
   (F : ∀ base : Heap, K.In base -> base.Ns mainGlobals mg -> A8 P w K mg base CX k fa fd [x] sp) (hbind : ∀ (s : Shared) (u : Value), BindsTo s fd ⟨[u], []⟩ [(x, u)])
   (hsp : ∀ H : Hp, Only H -> SqL K H a (ns.map V.int) -> sp [.ref a] H (fun v _ => v = .bl true) fun _ _ _ => False)
   (hCX : ∀ H e s', CX [] H s₁ (fun _ _ _ => False) e s' -> False) :
   codeAny (model P w) callerA (.call (.ref fa) ⟨[.ref a], []⟩) (fun r s' => r = .ok (.ret (.bool true)) /\ OldK s₁.heap s'.heap /\ s'.os = s₁.os /\ AllBare s'.gens) s₁ := by
 have rv := D9w hi
 have lenV := hi.length
 have core : ∀ H : Hp, Only H -> SqL K H a (ns.map V.int) -> HOk P w H s₁.heap -> (∀ b, H b ≠ none -> b = a) -> (H a ≠ none -> K.lookup a = none) ->
     codeAny (model P w) callerA (.call (.ref fa) ⟨[.ref a], []⟩) (fun r s' => r = .ok (.ret (.bool true)) /\ OldK s₁.heap s'.heap /\ s'.os = s₁.os /\ AllBare s'.gens) s₁ := by
   intro H hO hS hok hA hK
   have base_of : ∀ {b : Addr} {o : Obj}, s₁.heap.get? b = some o -> H b = none -> (G1h s₁.heap H).get? b = some o := fun e n => Y4s e n
   have noA : ∀ {b : Addr} {o : Obj} {es : Array DictEntry} {ep : Nat}, s₁.heap.get? b = some o -> o.data = .dict es ep -> H b = none := fun {b o es ep} e d => by
     cases q : H b with
     | none => rfl
     | some u =>
       have e' : b = a := hA b (by rw [q]; simp)
       subst e'
       rw [ha] at e; cases e
       have d' : Data.seq vs.toArray _ = Data.dict es ep := d
       cases d'
   have nsK : ∀ {b : Addr} {m : Str -> Option Value}, s₁.heap.Ns b m -> (G1h s₁.heap H).Ns b m := fun {b m} ⟨o, es, ep, e, d, r⟩ => ⟨o, es, ep, base_of e (noA e d), d, r⟩
   have hKb : K.In (G1h s₁.heap H) := fun b o e => base_of (KX b o e) (by
     cases q : H b with
     | none => rfl
     | some u =>
       have e' : b = a := hA b (by rw [q]; simp)
       subst e'
       rw [hK (by rw [q]; simp)] at e; cases e)
   have hM : Mod K mg (G1h s₁.heap H) := ⟨hKb, nsK hns, ⟨mb, nsK hb, hbb⟩, let ⟨mc, h1, h2⟩ := hlim; ⟨mc, nsK h1, h2⟩⟩
   have e0 : U1t P w K mg (G1h s₁.heap H) callerA [] s₁ H := ⟨rfl, hM, fun b o e => A0hu e, Nat.le_of_eq (V6y _ _), trivial, fun b hb => absurd (show b ∈ ([] : List Addr) from hb) (by simp), hok, .of_eq hg⟩
   refine codeAny_mono ((F _ hKb (nsK hns)).run callerA [] s₁ H ⟨[.ref a], []⟩ [.ref a] [.ref a] _ _ hr e0 (hbind s₁ (.ref a)) (.cons rfl .nil) (hsp H hO hS)) fun r s' h => ?_
   cases r with
   | error e => exact (hCX H e s' h).elim
   | ok fl =>
     cases fl with
     | next => exact False.elim h
     | brk => exact False.elim h
     | cont => exact False.elim h
     | ret u =>
       obtain ⟨v, H', os, bare, un, hok', r', q⟩ := h
       have q' : v = .bl true := q
       subst q'
       obtain rfl : u = Value.bool true := r'
       refine ⟨rfl, OldK.of_keep fun b o e => ?_, os, bare⟩
       cases q : H b with
       | none => exact un.keep b o e q (by intro z; exact absurd (show b ∈ ([] : List Addr) from z) (by simp)) (by simp)
       | some u =>
         rcases hO b with z | ⟨ob, xs, z⟩
         . rw [q] at z; cases z
         . have z2 := un.frzs b ob _ z
           obtain ⟨e1, _⟩ := hok b _ z
           obtain ⟨e2, _⟩ := hok' b _ z2
           rw [e] at e1; cases e1
           exact e2
 cases hk : K.lookup a with
 | some o =>
   have e := KX a o hk
   rw [ha] at e
   cases e
   refine core (fun _ => none) (fun _ => .inl rfl) (.inr ⟨_, vs.toArray, _, hk, rfl, rfl, rfl, by rw [List.size_toArray, lenV]; exact hl, by simpa using rv⟩) (fun b u z => by have z' : (none : Option HO) = some u := z; cases z') (fun b z => absurd rfl z) fun z => absurd rfl z
 | none =>
   refine core (fun b => if b = a then some (.frz { cls := .type "list", data := .seq vs.toArray } (.lst (ns.map V.int))) else none) (fun b => ?_) (.inl (.inr ⟨{ cls := .type "list", data := .seq vs.toArray }, if_pos rfl⟩)) (fun b u z => ?_) (fun b z => ?_) fun _ => hk
   . by_cases hb : b = a
     . exact .inr ⟨_, _, if_pos hb⟩
     . exact .inl (if_neg hb)
   . by_cases hb : b = a
     . have z' := (if_pos hb).symm.trans z
       cases z'
       subst hb
       exact ⟨ha, by rw [List.length_map]; exact hl, vs, _, rv, ha⟩
     . have z' := (if_neg hb).symm.trans z
       cases z'
   . by_cases hb : b = a
     . exact hb
     . exact absurd (if_neg hb) z
theorem walk_of {l : PySem.W.OpenLaw} {n k : Nat} {q : Program} {loose : List Str} {XP : (Str -> Option Value) -> Heap -> Prop} {YP : World -> Heap -> Prop} {d : DefRec} {K : Params -> PySem.W.Frag} {CX : World -> CXT} {sp : World -> Sp} {x : Str}
   (hn : l.most = some n) (hn2 : n <= sizeLine) (hdf : d.params.defaults = []) (hr : A0m k callerA)
   (hY : ∀ (w : World) (h : Heap), YP w h -> (K w.params).In h)
   (F : ∀ (w : World) (mg : Str -> Option Value) (fa : Addr) (h : Heap), (K w.params).In h -> h.Ns mainGlobals mg -> mg d.name = some (.ref fa) ->
     ∃ fd : FuncData, (∀ (s : Shared) (u : Value), BindsTo s fd ⟨[u], []⟩ [(x, u)]) /\
       ∀ base : Heap, (K w.params).In base -> base.Ns mainGlobals mg -> A8 l.prog w (K w.params) mg base (CX w) k fa fd [x] (sp w))
   (hsp : ∀ (w : World) (H : Hp) (a : Addr) (ns : List Int), ns.length <= n -> Only H -> SqL (K w.params) H a (ns.map V.int) -> sp w [.ref a] H (fun v _ => v = .bl true) fun _ _ _ => False)
   (hCX : ∀ (w : World) (H : Hp) (s : Shared) (e : Value) (s' : Shared), CX w [] H s (fun _ _ _ => False) e s' -> False) :
   PySem.W.WalkO q loose XP YP l.row.toRowW d [] (fun f vs => PySem.call f vs) := by
 refine Att.attach_call hn hdf fun w s₀ s₁ mg mb fa o pm cd doc a vs ns G Y ho hd hcd hmg hobj hints hlen hg => ?_
 have KX := hY w _ Y
 obtain ⟨fd, hb, hF⟩ := F w mg fa _ KX G.T.g hmg
 exact Y6u KX G.T.g G.T.b G.T.builtins G.T.nolimit hg hobj hints (Nat.le_trans hlen hn2) hr hF hb (fun H hO hS => hsp w H a ns hlen hO hS) fun H e s' => hCX w H s₁ e s'
def J2 (s : Stmt) (j : Nat) : Stmt := match s with
 | .ClassDef _ _ _ body _ _ _ _ _ _ _ => body.getD j (.Pass ⟨0, 0, 0, 0⟩)
 | _ => .Pass ⟨0, 0, 0, 0⟩
def B9 (s : Stmt) : Arguments := match s with
 | .FunctionDef _ a _ _ _ _ _ _ _ _ => a
 | _ => { posonlyargs := [], args := [], vararg := none, kwonlyargs := [], kw_defaults := [], kwarg := none, defaults := [] }
def B8 (s : Stmt) : List Stmt := match s with
 | .FunctionDef _ _ b _ _ _ _ _ _ _ => b
 | _ => []
def A2 (s : Stmt) : Scope := match s with
 | .FunctionDef _ _ _ _ _ _ sc _ _ _ => sc
 | _ => { kind := .function, names := [], isGenerator := false, isCoroutine := false }
abbrev CX0 : CXT := fun _ _ _ _ _ _ => False
abbrev E0 : XK := fun _ _ _ => False
theorem Y6r {X : Cx} : U0p CX0 X E0 := fun _ _ _ _ _ _ _ h => h.elim
structure Fun (K : PySem.W.Frag) (x qual : Str) (st : Stmt) (f : Addr) (fd : FuncData) : Prop where
 ex : ∃ (oc : Value) (od : Option Addr) (kV doc pm : Value) (an : Option Addr) (cdv ct : Value) (osl : Array (Option Value)),
   fd = PySem.W.fnOf x qual (B9 st) (B8 st) (A2 st) .none kV doc pm an cdv ct /\ K.lookup f = some ⟨oc, od, .func fd, osl⟩ /\ PySem.W.codeIn K cdv qual = true
 kp : PySem.W.keepIn K (.ref f) = true
section
variable {P : Program} {w : World} {K : PySem.W.Frag} {mg : Str -> Option Value} {base : Heap}
theorem Fun.ok {x qual : Str} {st : Stmt} {f : Addr} {fd : FuncData} {N ps : List Str} {k : Nat} {sp : Sp} (F : Fun K x qual st f fd) (S : C5 N ps (A2 st)) (len : ∀ vs H Q E, sp vs H Q E -> vs.length = ps.length)
   (hbody : ∀ (cdv : Value) (A : Around) (outer : List Env) (s : Shared) (H : Hp) (vs : List V) (Q : VK) (E : XK), A0m k (A.deeper (envOfC qual (A2 st) s.heap.objs.size f cdv)) -> sp vs H Q E ->
     ∃ t, PSs (A1x CX0 P w K mg base N qual (A2 st) f cdv A outer s H E).nox (B8 st) t /\ t { nx := fun _ H' => Q .non H', rt := Q } (B6t N vs) H) : A8 P w K mg base CX0 (k + 1) f fd ps sp := by
 obtain ⟨oc, od, kV, doc, pm, an, cdv, ct, osl, rfl, lk, hcd⟩ := F.ex
 refine Y7e lk hcd S len fun A outer s H vs Q E hr hsp => ?_
 obtain ⟨t, h, q⟩ := hbody cdv A outer s H vs Q E hr hsp
 exact ⟨t, h.nox, q⟩
theorem Fun.binds {x qual : Str} {st : Stmt} {f : Addr} {fd : FuncData} {ps : List Str} (F : Fun K x qual st f fd)
   (h : ∀ (kV doc pm : Value) (an : Option Addr) (cdv ct : Value) (us : List Value), us.length = ps.length -> bindArgs (PySem.W.fnOf x qual (B9 st) (B8 st) (A2 st) .none kV doc pm an cdv ct) ⟨us, []⟩ = pure (ps.zip us)) : Binds K fd ps [] := by
 obtain ⟨oc, od, kV, doc, pm, an, cdv, ct, osl, rfl, lk, hcd⟩ := F.ex
 exact .all (h kV doc pm an cdv ct)
theorem U3 {x qual : Str} {st : Stmt} {f : Addr} {oc : Value} {od an : Option Addr} {osl : Array (Option Value)} {kV doc pm cdv ct : Value} (l : K.lookup f = some ⟨oc, od, .func (PySem.W.fnOf x qual (B9 st) (B8 st) (A2 st) .none kV doc pm an cdv ct), osl⟩)
   (c : PySem.W.codeIn K cdv qual = true) (k : PySem.W.keepIn K (.ref f) = true) : Fun K x qual st f (PySem.W.fnOf x qual (B9 st) (B8 st) (A2 st) .none kV doc pm an cdv ct) := ⟨⟨oc, od, kV, doc, pm, an, cdv, ct, osl, rfl, l, c⟩, k⟩
end
theorem A0y {n : Nat} (h : n <= 1000) : n < sizeLine := Nat.lt_of_le_of_lt h (by decide)
section
variable {X : Cx}
theorem pv (i : Nat) {x : Str} {pos : Pos} (hN : X.N[i]? = some x := by rfl) (hv : Vis X.env.scope x := by first | exact Or.inl rfl | exact Or.inr (Or.inl rfl) | exact Or.inr (Or.inr rfl)) (hd : (x == ("__debug__" : Str)) = false := by decide)
   (hcd : (x == ("__classdict__" : Str)) = false := by decide) : PE X (.Name x pos) (tVar i) := A0tr hN hv hd hcd
end
theorem V3 {A B : Prop} (h : B) : if false = true then A else B := by
 rw [if_neg Bool.false_ne_true]
 exact h
theorem Z5 {A B : Prop} (h : A) : if true = true then A else B := by
 rw [if_pos rfl]
 exact h
theorem C8r {c A B : Prop} [Decidable c] (hc : c) (h : B) : if (!decide c) = true then A else B := by
 rw [decide_eq_true hc]
 exact V3 h
def C8 (H H' : Hp) : Prop := ∀ b o, H b = some o -> H' b = some o
theorem C8.refl (H : Hp) : C8 H H := fun _ _ h => h
theorem C8.trans {H H1 H2 : Hp} (a : C8 H H1) (b : C8 H1 H2) : C8 H H2 := fun c o h => b c o (a c o h)
theorem C8.free {H H' : Hp} (e : C8 H H') {l : Addr} (h : H' l = Option.none) : H l = Option.none := by
 cases q : H l with
 | none => rfl
 | some o =>
   rw [e l o q] at h
   cases h
theorem C8.seq {K : PySem.W.Frag} {H H' : Hp} {a : Addr} {xs : List V} (e : C8 H H') (h : SqL K H a xs) : SqL K H' a xs := by
 rcases h with (h | ⟨o, h⟩) | h
 . exact .inl (.inl (e _ _ h))
 . exact .inl (.inr ⟨o, e _ _ h⟩)
 exact .inr h
end L2
set_option maxHeartbeats 4000000
namespace L2
open PySem PySem.Spec PyProof.Rows
abbrev A3g (C : Value) (t : Addr) (dd : Option Addr) (tb : Value) : Obj :=
 { cls := C, dict := dd, data := .fields #[.ref t, tb, .none, .none, .bool false, .none] }
structure A0zz (fs : List Addr) (h h' : Heap) (a : Addr) (C : Value) (t : Addr) (dd : Option Addr) (T : Addr) (fl : Value) : Prop where
 keep : ∀ b o, b ∉ fs -> b ≠ a -> h.get? b = some o -> h'.get? b = some o
 slot : ∀ b o, b ≠ a -> h.get? b = some o -> ∃ sl, h'.get? b = some { o with slots := sl }
 new : h.get? T = none
 ne : T ≠ a
 exc : h'.get? a = some (A3g C t dd (.ref T))
 tbk : ∃ oT ts, h'.get? T = some oT /\ oT.data = .fields ts /\ ts[3]? = some fl
section
variable {M : Model} {A : Around} {E : Value -> Shared -> Prop} {s : Shared} {base : Heap} {env : Env} {outer : List Env} {L a t : Addr} {C : Value} {dd : Option Addr} {tb : Value} {Q : Unit -> Shared -> Prop}
theorem A0gj {oa : Obj} {vs : Array Value} {l : List Env} (hl : s.heap.FunFrames base l) (ha : s.heap.get? a = some oa) (hd : oa.data = .fields vs) : a ∉ l.filterMap (·.frame) := by
 intro hm
 obtain ⟨_, o, ho, hn⟩ := hl.mem hm
 rw [ha] at ho
 cases ho
 exact hn vs hd
theorem V4a {head : Value} {hn : Bool} (hfr : A.frames = some (env :: outer)) (hl : s.heap.FunFrames base (env :: outer)) (hf : env.frame = some L)
   (ha : s.heap.get? a = some (A3g C t dd tb))
   (h : ∀ h' T, A0zz ((env :: outer).filterMap (·.frame)) s.heap h' a C t dd T (rawInt L) -> Q () { s with heap := h' }) :
   wpAny M A (do
     let x <- frameOf env
     let pl <- entryPlaceOf L hn
     let b <- EntryCells.newEntry head x .none (rawInt L) .none pl
     setField (.ref a) 1 b) Q E s := by
 have na := A0gj hl ha rfl
 refine wpAny_bind (wpAny_frameOf_fun hfr hl hf fun g hg => ?_)
 refine wpAny_bind (wpAny_entryPlaceOf fun pl hpl => ?_)
 unfold EntryCells.newEntry newFields
 refine wpAny_bind (wpAny_newObj_type ?_ (hpl.sizeOk5 _ _ _ _ _))
 have a1 : g.get? a = some (A3g C t dd tb) := (hg.2.1 a na).trans ha
 have a2 := fun (z : Obj) => Heap.get?_push_of_some (h := g) z a1
 have nT : g.objs.size ≠ a := Nat.ne_of_gt (Heap.lt_size a1)
 refine wpAny_setField (a2 _) rfl (by show 1 < 6; decide) (h _ g.objs.size ?_)
 have up : ∀ (z : Obj) (f : Obj -> Obj) b o, b ≠ a -> g.get? b = some o -> ((g.push z).update a f).get? b = some o := by
   intro z f b o hb e
   rw [Heap.get?_update_other _ _ (Ne.symm hb)]
   exact Heap.get?_push_of_some _ e
 refine ⟨fun b o hb hba e => up _ _ b o hba ((hg.2.1 b hb).trans e), fun b o hba e => ?_, ?_, nT, ?_, ?_⟩
 . obtain ⟨sl, e1⟩ := hg.2.2 b o e
   exact ⟨sl, up _ _ b _ hba e1⟩
 . refine Heap.get?_none_of_le ?_
   rw [hg.1]
   exact Nat.le_refl _
 . exact Heap.get?_update_self _ (a2 _) rfl
 refine ⟨_, _, (Heap.get?_update_other _ _ (Ne.symm nT)).trans (Heap.get?_push_size _ rfl), rfl, ?_⟩
 first
   | (simp; done)
   | (rcases hpl with rfl | ⟨_, _, _, _, _, _, _, rfl⟩ <;> simp)
def TbOk (h : Heap) (a : Addr) (tb : Value) : Prop := tb = .none \/ ∃ T oT ts, tb = .ref T /\ T ≠ a /\ h.get? T = some oT /\ oT.data = .fields ts /\ ts[3]? = some .none
theorem A0ry (hfr : A.frames = some (env :: outer)) (hl : s.heap.FunFrames base (env :: outer)) (hf : env.frame = some L)
   (ha : s.heap.get? a = some (A3g C t dd tb)) (ht : TbOk s.heap a tb)
   (h : ∀ h' T, (∀ b o, b ∉ (env :: outer).filterMap (·.frame) -> b ≠ a -> tb ≠ .ref b -> s.heap.get? b = some o -> h'.get? b = some o) ->
     (∀ b o, b ≠ a -> tb ≠ .ref b -> s.heap.get? b = some o -> ∃ sl, h'.get? b = some { o with slots := sl }) -> s.heap.get? T = none -> T ≠ a ->
     h'.get? a = some (A3g C t dd (.ref T)) -> (∃ oT ts, h'.get? T = some oT /\ oT.data = .fields ts /\ ts[3]? = some (rawInt L)) -> Q () { s with heap := h' }) :
   wpAny M A (noteFrame (.ref a) env) Q E s := by
 unfold noteFrame
 simp only [hf]
 refine wpAny_bind (wpAny_field ha rfl (x := tb) rfl ?_)
 rcases ht with rfl | ⟨T, oT, ts, rfl, nT, hT, dT, h3⟩
 . rw [if_neg (by decide)]
   refine V4a hfr hl hf ha fun h' T N => ?_
   exact h h' T (fun b o hb hba _ e => N.keep b o hb hba e) (fun b o hba _ e => N.slot b o hba e) N.new N.ne N.exc N.tbk
 rw [if_pos (show (Value.ref T != Value.none) = true by simp)]
 refine wpAny_bind (wpAny_field hT dT h3 ?_)
 rw [if_neg (show ¬ ((Value.none == rawInt L) = true) by simp [rawInt])]
 refine wpAny_bind (wpAny_setField hT dT (Array.getElem?_eq_some_iff.mp h3).1 ?_)
 have oth : ∀ (f : Obj -> Obj) b, b ≠ T -> (s.heap.update T f).get? b = s.heap.get? b := fun f b hb => Heap.get?_update_other _ _ (Ne.symm hb)
 have nrec : ∀ b o, s.heap.get? b = some o -> (∀ vs, o.data ≠ .fields vs) -> b ≠ T := by
   intro b o e hn q
   rw [q, hT] at e
   cases e
   exact hn ts dT
 refine V4a (s := { s with heap := _ }) hfr (hl.of_keeps fun b o e hn => ⟨o, (oth _ b (nrec b o e hn)).trans e, rfl⟩) hf ((oth _ a (Ne.symm nT)).trans ha) fun h' T' N => ?_
 have neb : ∀ b, Value.ref T ≠ Value.ref b -> b ≠ T := fun b q z => q (by rw [z])
 refine h h' T' (fun b o hb hba hbT e => N.keep b o hb hba ((oth _ b (neb b hbT)).trans e)) (fun b o hba hbT e => N.slot b o hba ((oth _ b (neb b hbT)).trans e)) ?_ N.ne N.exc N.tbk
 have nw := N.new
 by_cases q : T' = T
 . subst q
   have := Heap.get?_update_self (Obj.mapFields (·.setIfInBounds 3 Value.none)) hT (Obj.isFreed_of_fields (Obj.data_mapFields dT _))
   rw [nw] at this
   cases this
 rw [oth _ T' q] at nw
 exact nw
theorem A0tq {T : Addr} {oT : Obj} {ts : Array Value} {fl : Value} (ha : s.heap.get? a = some (A3g C t dd (.ref T))) (nT : T ≠ a) (hT : s.heap.get? T = some oT) (dT : oT.data = .fields ts) (h3 : ts[3]? = some fl)
   (h : ∀ h', (∀ b o, b ≠ T -> s.heap.get? b = some o -> h'.get? b = some o) -> TbOk h' a (.ref T) -> Q () { s with heap := h' }) : wpAny M A (setFlight (.ref a) none) Q E s := by
 have sz : 3 < ts.size := (Array.getElem?_eq_some_iff.mp h3).1
 unfold setFlight
 refine wpAny_bind (wpAny_field ha rfl (x := .ref T) rfl ?_)
 rw [if_pos (show (Value.ref T != Value.none) = true by simp)]
 refine wpAny_setField hT dT sz (h _ (fun b o hb e => (Heap.get?_update_other _ _ (Ne.symm hb)).trans e) ?_)
 have d2 := Obj.data_mapFields dT (·.setIfInBounds 3 ((none : Option Addr).elim Value.none fun f => rawInt f))
 exact .inr ⟨T, _, _, rfl, nT, Heap.get?_update_self _ hT (Obj.isFreed_of_fields d2), d2, by simp [sz]⟩
end
def Hd (A : Around) (h : Heap) : Prop := A.handled = none \/ ∃ x ox vs, A.handled = some (.ref x) /\ h.get? x = some ox /\ ox.data = .fields vs /\ vs[2]? = some .none
theorem D5d : entryFor table "proto.unchain" = some Builtin.«proto.unchain» := entryFor_of_tree (by kernel_rfl)
section
variable {prog : Program} {w : World} {A : Around} {E : Value -> Shared -> Prop} {s : Shared}
theorem J5a {α : Type} {a : Addr} {oa : Obj} {ws : Array Value} {h₀ : Heap} {Q : α -> Shared -> Prop} (hd : Hd A h₀) (k : ∀ b o, h₀.get? b = some o -> s.heap.get? b = some o) (na : h₀.get? a = none)
   (ha : s.heap.get? a = some oa) (da : oa.data = .fields ws) (h2 : 2 < ws.size)
   (h : ∀ h', (∀ b o, b ≠ a -> s.heap.get? b = some o -> h'.get? b = some o) -> (∃ o', h'.get? a = some o' /\ o'.cls = oa.cls) -> E (.ref a) { s with heap := h' }) :
   wpAny (model prog w) A (raiseNew (.ref a) : Sem α) Q E s := by
 unfold raiseNew
 refine wpAny_bind (wpAny_handled ?_)
 rcases hd with z | ⟨x, ox, vs, z, e, d, n⟩
 . rw [z]
   exact wpAny_bind (wpAny_pure (wpAny_throw (h _ (fun b o _ e => e) ⟨_, ha, rfl⟩)))
 rw [z]
 have nx : x ≠ a := by
   intro q
   rw [q, na] at e
   cases e
 dsimp only
 rw [if_pos (show (Value.ref x != Value.ref a) = true by simpa using nx)]
 refine wpAny_bind (wpAny_holding (wpAny_runValue (codeAny_builtin D5d ?_)))
 unfold Builtin.«proto.unchain»
 dsimp only
 refine wpAny_bind (wpAny_field (k x ox e) d n ?_)
 rw [if_pos (by decide)]
 refine wpAny_pure ?_
 dsimp only
 unfold updateField
 refine wpAny_bind (wpAny_bind (wpAny_load ha ?_))
 rw [da]
 dsimp only
 rw [if_pos h2]
 refine wpAny_update ha (wpAny_throw (h _ (fun b o hb e => (Heap.get?_update_other _ _ (Ne.symm hb)).trans e) ⟨_, Heap.get?_update_self _ ha (Obj.isFreed_of_fields (Obj.data_mapFields da _)), Obj.cls_mapFields _ _⟩))
theorem V3d {α : Type} {Q : α -> Shared -> Prop} (hd : Hd A s.heap)
   (h : ∀ h' e, (∀ b o, s.heap.get? b = some o -> h'.get? b = some o) -> ({ s with heap := h' } : Shared).TypeIs (.ref e) "StopIteration" -> E (.ref e) { s with heap := h' }) :
   wpAny (model prog w) A (newExc (.type "StopIteration") [] >>= fun e => (raiseNew e : Sem α)) Q E s := by
 refine wpAny_bind ?_
 simp only [newExc, newTuple]
 refine wpAny_bind (wpAny_newObj_type ?_ (by size_fits)); refine wpAny_bind (m := firstArgMember _ _) (wpAny_of_eq (a := Value.none) (by first | rfl | (simp only [firstArgMember]; rfl)) ?_)
 refine wpAny_newObj_type ?_ (by size_fits); dsimp only
 have k1 : ∀ (z : Obj) b o, s.heap.get? b = some o -> (s.heap.push z).get? b = some o := fun z b o e => Heap.get?_push_of_some _ e
 have k2 : ∀ (z y : Obj) b o, s.heap.get? b = some o -> ((s.heap.push z).push y).get? b = some o := fun z y b o e => Heap.get?_push_of_some _ (Heap.get?_push_of_some _ e)
 have nw : ∀ (z : Obj), s.heap.get? (s.heap.push z).objs.size = none := fun z => Heap.get?_none_of_le (by rw [Heap.size_push]; exact Nat.le_succ _)
 refine J5a (s := { s with heap := _ }) (h₀ := s.heap) hd (k2 _ _) (nw _) (Heap.get?_push_size _ rfl) rfl (by show 2 < 6; decide) fun h' k ⟨o', e', c'⟩ => h h' _ (fun b o e => ?_) ⟨o', e', c'⟩
 refine k b o ?_ (k2 _ _ b o e)
 intro q; rw [q, nw] at e; cases e
theorem C1r {it l : Addr} {i : Nat} {items : Array Value} {Q : Option Value -> Shared -> Prop} (hd : ∀ h' : Heap, Heap.ExtBut it s.heap h' -> Hd A h')
   (hit : s.heap.IsListIter it l i) (hl : s.heap.IsList l items) (hx : items[i]? = none)
   (hQ : ∀ h', Heap.ExtBut it s.heap h' -> Q none { s with heap := h' }) : wpAny (model prog w) A (pyNext (.ref it)) Q E s := by
 obtain ⟨o, ho, hc, dt⟩ := id hit
 obtain ⟨ol, hol, _, nl, dl⟩ := hl
 unfold pyNext
 refine wpAny_bind (wpAny_attempt (wpAny_callSpecial?_slot (name := Str.ofString "__next__") hit.typeIs slot_listiter_next (wpAny_call_entry slot_listiter_next hit.typeIs entry_listiter_next ?_ (args_listiter_next _))))
 show wpAny _ _ (field (.ref it) 0 >>= _) _ _ _; refine wpAny_bind (wpAny_field ho dt (x := .ref l) rfl ?_)
 show wpAny _ _ (if (Value.ref l == Value.none) = true then _ else _) _ _ _; rw [if_neg (show ¬ ((Value.ref l == Value.none) = true) by simp)]
 show wpAny _ _ (field (.ref it) 1 >>= _) _ _ _; refine wpAny_bind (wpAny_field ho dt (x := .int i 0) rfl ?_)
 show wpAny _ _ (seqItems? (.ref l) >>= _) _ _ _; refine wpAny_bind (wpAny_seqItems hol dl ?_)
 simp only [Int.toNat_natCast, hx]
 refine wpAny_bind (wpAny_rule (wpAny_bind (wpAny_setField ho dt (by simp) ?_)))
 have up := fun f => (Heap.SameBut.update (a := it) (h := s.heap) (f := f)).extBut
 refine V3d (s := { s with heap := _ }) (A := A.in1) (hd _ (up _)) fun h' e k ty => ?_
 refine wpAny_bind (wpAny_isInstance (T := "StopIteration") (b := true) ty isSubtype_stop ?_)
 exact wpAny_pure (hQ h' fun b o hb z => k b o (up _ b o hb z))
theorem C7c {it t : Addr} {i : Nat} {items : Array Value} {Q : Option Value -> Shared -> Prop} (hd : ∀ h' : Heap, Heap.ExtBut it s.heap h' -> Hd A h')
   (hit : IsTupIter s.heap it t i) (hl : IsTup s.heap t items) (hx : items[i]? = none)
   (hQ : ∀ h', Heap.ExtBut it s.heap h' -> Q none { s with heap := h' }) : wpAny (model prog w) A (pyNext (.ref it)) Q E s := by
 obtain ⟨o, ho, hc, dt⟩ := id hit
 obtain ⟨ol, hol, _, nl, dl⟩ := hl
 unfold pyNext
 refine wpAny_bind (wpAny_attempt (wpAny_callSpecial?_slot (name := Str.ofString "__next__") hit.typeIs slot_tupleiter_next (wpAny_call_entry slot_tupleiter_next hit.typeIs entry_tupleiter_next ?_ (args_tupleiter_next _))))
 show wpAny _ _ (field (.ref it) 0 >>= _) _ _ _; refine wpAny_bind (wpAny_field ho dt (x := .ref t) rfl ?_)
 show wpAny _ _ (if (Value.ref t == Value.none) = true then _ else _) _ _ _; rw [if_neg (show ¬ ((Value.ref t == Value.none) = true) by simp)]
 show wpAny _ _ (field (.ref it) 1 >>= _) _ _ _; refine wpAny_bind (wpAny_field ho dt (x := .int i 0) rfl ?_)
 show wpAny _ _ (seqItems? (.ref t) >>= _) _ _ _; refine wpAny_bind (wpAny_seqItems hol dl ?_)
 simp only [Int.toNat_natCast, hx]
 refine wpAny_bind (wpAny_rule (wpAny_bind (wpAny_setField ho dt (by simp) ?_)))
 have up := fun f => (Heap.SameBut.update (a := it) (h := s.heap) (f := f)).extBut
 refine V3d (s := { s with heap := _ }) (A := A.in1) (hd _ (up _)) fun h' e k ty => ?_
 refine wpAny_bind (wpAny_isInstance (T := "StopIteration") (b := true) ty isSubtype_stop ?_)
 exact wpAny_pure (hQ h' fun b o hb z => k b o (up _ b o hb z))
end
theorem A0g.there {P : Program} {w : World} {H : Hp} {h : Heap} {a : Addr} {o : HO} (x : A0g P w H h a o) : ∃ u, h.get? a = some u := by
 cases o with
 | lst xs => obtain ⟨_, _, _, _, e⟩ := x; exact ⟨_, e⟩
 | tup xs => obtain ⟨_, _, _, _, e, _⟩ := x; exact ⟨_, e⟩
 | dK kvs => obtain ⟨_, _, _, _, o, _, _, e, _⟩ := x; exact ⟨_, e⟩
 | dT kvs => obtain ⟨_, _, _, _, o, _, _, e, _⟩ := x; exact ⟨_, e⟩
 | set S n => obtain ⟨o, _, _, _, e, _⟩ := x; exact ⟨_, e⟩
 | ins C dx fs => obtain ⟨_, _, _, e, _⟩ := x; exact ⟨_, e⟩
 | own y => obtain ⟨_, e⟩ := x; exact ⟨_, e⟩
 | xd fs => obtain ⟨_, ⟨_, _, _, e, _⟩, _⟩ := x; exact ⟨_, e⟩
 | rng lo hi => obtain ⟨_, _, _, e⟩ := x; exact ⟨_, e⟩
 | frz ob u => obtain ⟨e, _⟩ := x; exact ⟨_, e⟩
 | tbl ps => exact ⟨_, show h.get? a = some _ from x⟩
 | met f y => exact ⟨_, show h.get? a = some _ from x⟩
 | ext φ => obtain ⟨_, e, _⟩ := x; exact e
theorem HOk.new {P : Program} {w : World} {H : Hp} {h : Heap} {a : Addr} (x : HOk P w H h) (e : h.get? a = none) : H a = none := by
 cases q : H a with
 | none => rfl
 | some u =>
   obtain ⟨o, z⟩ := (x a u q).there
   rw [e] at z
   cases z
structure Nw (X : Cx) (pins : List (Addr × Obj)) (H : Hp) (b : Addr) : Prop where
 un : H b = none
 loc : b ≠ X.env.locals
 fs : b ∉ X.fs
 old : X.s₀.heap.get? b = none
 cell : ∀ x c, X.env.cells.lookup x = some c -> c ≠ b
 pin : ∀ p ∈ X.pn ++ pins, p.1 ≠ b
section
variable {X : Cx} {pins : List (Addr × Obj)} {σ : St} {H H' : Hp} {s s' : Shared} {a b t : Addr} {C : Value} {dd : Option Addr}
theorem Inv.fsFree (I : Inv X pins σ H s) : ∀ b ∈ X.fs, H b = none := fun b hb => I.stkFree b (by
 rcases I.ok.stk with z | ⟨z, zf⟩
 . rw [z]; exact hb
 . rw [z]
   unfold frs
   rw [List.filterMap_cons, zf]
   exact List.mem_cons_of_mem _ hb)
theorem Inv.nw (I : Inv X pins σ H s) (hex : X.ex = []) (e : s.heap.get? b = none) (hu : H' b = none) : Nw X pins H' b := by
 refine ⟨hu, ?_, ?_, ?_, ?_, ?_⟩
 . rintro rfl
   obtain ⟨m, ⟨o, _, _, ho, _⟩, _⟩ := I.loc
   rw [e] at ho
   cases ho
 . intro hb
   obtain ⟨_, o, ho, _⟩ := I.funs.mem hb
   rw [e] at ho
   cases ho
 . cases q : X.s₀.heap.get? b with
   | none => rfl
   | some o =>
     obtain ⟨o', z⟩ := I.base.there b o q (by rw [hex]; simp)
     rw [e] at z
     cases z
 . rintro x c h rfl
   obtain ⟨v, o, ho, _⟩ := I.cell x c h
   rw [e] at ho
   cases ho
 rintro p hp rfl
 obtain ⟨z, _⟩ := I.pin p hp
 rw [e] at z
 cases z
theorem Inv.stepN {h' : Heap} {ch : List Addr} (I : Inv X pins σ H s) (hch : ∀ b ∈ ch, Nw X pins H b)
   (keep : ∀ b o, b ≠ X.env.locals -> b ∉ X.fs -> b ∉ ch -> s.heap.get? b = some o -> h'.get? b = some o)
   (slot : ∀ b o, b ∉ ch -> s.heap.get? b = some o -> ∃ sl, h'.get? b = some { o with slots := sl }) : Inv X pins σ H { s with heap := h' } := by
 have neL : ∀ b o, X.s₀.heap.get? b = some o -> b ≠ X.env.locals := fun b o e => Nat.ne_of_lt (Nat.lt_of_lt_of_le (Heap.lt_size e) I.ok.above)
 have neC : ∀ b o, X.s₀.heap.get? b = some o -> b ∉ ch := fun b o e hb => by
   have z := (hch b hb).old
   rw [e] at z
   cases z
 have cellK : ∀ x c, X.env.cells.lookup x = some c -> ∀ v, s.heap.IsCell c v -> h'.IsCell c v := fun x c e v ⟨o, ho, hd⟩ => by
   have nch : c ∉ ch := fun z => (hch c z).cell x c e rfl
   obtain ⟨sl, q⟩ := slot c o nch ho
   exact ⟨_, q, hd⟩
 refine ⟨I.ok, I.os, I.bare, ⟨fun b o e n hb hx => ?_, fun b o e n hb hx => ?_, I.base.free, fun b o e hx => ?_, I.base.tups, I.base.frzs, I.base.tbls⟩, ?_, fun x c e => ?_, I.free, I.freeC, fun p hp => ?_, ?_, I.len⟩
 . exact keep b o (neL b o e) hb (neC b o e) (I.base.keep b o e n hb hx)
 . obtain ⟨sl, e1⟩ := I.base.slot b o e n hb hx
   obtain ⟨sl', e2⟩ := slot b _ (neC b o e) e1
   exact ⟨sl', e2⟩
 . obtain ⟨o', e1⟩ := I.base.there b o e hx
   obtain ⟨sl', e2⟩ := slot b _ (neC b o e) e1
   exact ⟨_, e2⟩
 . obtain ⟨m, hn, hl⟩ := I.loc
   refine ⟨m, ?_, fun i x v e1 e2 e3 => ?_⟩
   . obtain ⟨o, es, ep, ho, r⟩ := hn
     obtain ⟨sl, q⟩ := slot _ o (fun z => (hch _ z).loc rfl) ho
     exact ⟨_, es, ep, q, r⟩
   . obtain ⟨u, r, l⟩ := hl i x v e1 e2 e3
     refine ⟨u, r, ?_⟩
     rcases l with l | ⟨k, c, e, z⟩
     . exact .inl l
     . exact .inr ⟨k, c, e, cellK x c e _ z⟩
 . obtain ⟨v, z⟩ := I.cell x c e
   exact ⟨v, cellK x c e v z⟩
 . obtain ⟨e, n, ne, nf, d⟩ := I.pin p hp
   exact ⟨keep p.1 p.2 ne nf (fun z => (hch p.1 z).pin p hp rfl) e, n, ne, nf, d⟩
 intro c o e
 have tr : ∀ b, H b ≠ none -> ∀ u, s.heap.get? b = some u -> h'.get? b = some u := fun b hb u q =>
   keep b u (fun z => hb (by rw [z]; exact I.free)) (fun z => hb (I.fsFree b z)) (fun z => hb (hch b z).un) q
 refine (I.hok c o e).stay (fun b u hb q => tr b ?_ u q) (fun _ q => q) fun _ _ q => q
 rcases hb with rfl | hb
 . rw [e]; simp
 rw [hb]; simp
def Flt (X : Cx) (pins : List (Addr × Obj)) (H : Hp) (s : Shared) (a : Addr) (C : Value) (t : Addr) (dd : Option Addr) : Prop :=
 Nw X pins H a /\ ∃ tb, s.heap.get? a = some (A3g C t dd tb) /\ TbOk s.heap a tb /\ ∀ T, tb = .ref T -> Nw X pins H T
def D0h (X : Cx) (pins : List (Addr × Obj)) (H : Hp) (s : Shared) (a : Addr) (C : Value) (t : Addr) (dd : Option Addr) (fl : Value) : Prop :=
 Nw X pins H a /\ ∃ T oT ts, s.heap.get? a = some (A3g C t dd (.ref T)) /\ T ≠ a /\ Nw X pins H T /\ s.heap.get? T = some oT /\ oT.data = .fields ts /\ ts[3]? = some fl
structure Body (X : Cx) : Prop where
 ex : X.ex = []
 st : X.stack = X.env :: X.outer
 fr : X.env.frame = some X.env.locals
theorem D0h.flt (F : D0h X pins H s a C t dd .none) : Flt X pins H s a C t dd := by
 obtain ⟨n, T, oT, ts, e, ne, nT, eT, dT, h3⟩ := F
 exact ⟨n, _, e, .inr ⟨T, oT, ts, rfl, ne, eT, dT, h3⟩, fun T' z => by cases z; exact nT⟩
def U1m : Value -> List Addr
 | .ref z => [z]
 | _ => []
theorem Y6x {M : Model} {E : Value -> Shared -> Prop} {Q : Unit -> Shared -> Prop} (B : Body X) (I : Inv X pins σ H s) (F : Flt X pins H s a C t dd)
   (k : ∀ s', Inv X pins σ H s' -> D0h X pins H s' a C t dd (rawInt X.env.locals) -> Q () s') : wpAny M X.A (noteFrame (.ref a) X.env) Q E s := by
 obtain ⟨na, tb, e, ht, nT⟩ := F
 have hfr := I.ok.frames
 rw [B.st] at hfr
 have hl := I.stack
 rw [B.st] at hl
 refine A0ry hfr hl B.fr e ht fun h' T k1 k2 k3 k4 k5 k6 => ?_
 have ch : ∀ b, b ∉ a :: U1m tb -> b ≠ a /\ tb ≠ .ref b := by
   intro b hb
   refine ⟨fun z => hb (by rw [z]; exact List.mem_cons_self), fun z => hb ?_⟩
   rw [z]
   exact List.mem_cons_of_mem _ (List.mem_singleton.mpr rfl)
 have I' : Inv X pins σ H { s with heap := h' } := by
   refine I.stepN (ch := a :: U1m tb) (fun b hb => ?_) (fun b o h1 h2 h3 q => k1 b o ?_ (ch b h3).1 (ch b h3).2 q) (fun b o h3 q => k2 b o (ch b h3).1 (ch b h3).2 q)
   . rcases List.mem_cons.mp hb with rfl | hb
     . exact na
     . cases tb <;> simp [U1m] at hb
       subst hb
       exact nT _ rfl
   . intro z
     rw [List.filterMap_cons, B.fr] at z
     rcases List.mem_cons.mp z with z | z
     . exact h1 z
     . exact h2 z
 obtain ⟨oT, ts, q1, q2, q3⟩ := k6
 exact k _ I' ⟨na, T, oT, ts, k5, k4, I.nw B.ex k3 (I.hok.new k3), q1, q2, q3⟩
theorem Y6m {M : Model} {A : Around} {E : Value -> Shared -> Prop} {Q : Unit -> Shared -> Prop} {fl : Value} (I : Inv X pins σ H s) (F : D0h X pins H s a C t dd fl)
   (k : ∀ s', Inv X pins σ H s' -> D0h X pins H s' a C t dd .none -> Q () s') : wpAny M A (setFlight (.ref a) none) Q E s := by
 obtain ⟨na, T, oT, ts, e, ne, nT, eT, dT, h3⟩ := F
 refine A0tq e ne eT dT h3 fun h' k1 k2 => ?_
 have I' : Inv X pins σ H { s with heap := h' } := I.stepN (ch := [T]) (fun b hb => by
   have : b = T := by simpa using hb
   subst this
   exact nT) (fun b o _ _ hb q => k1 b o (fun z => hb (by simp [z])) q) (fun b o hb q => ⟨_, k1 b o (fun z => hb (by simp [z])) q⟩)
 rcases k2 with z | ⟨T', oT', ts', z, _, q1, q2, q3⟩
 . cases z
 cases z
 exact k _ I' ⟨na, T, oT', ts', k1 a _ (Ne.symm ne) e, ne, nT, q1, q2, q3⟩
theorem V5t {M : Model} {E : Value -> Shared -> Prop} {Q : Unit -> Shared -> Prop} (B : Body X) (I : Inv X pins σ H s) (F : Flt X pins H s a C t dd)
   (k : ∀ s', Inv X pins σ H s' -> D0h X pins H s' a C t dd .none -> Q () s') : wpAny M X.A (leaving X.env (.ref a)) Q E s := by
 unfold leaving
 exact wpAny_bind (Y6x B I F fun s1 I1 F1 => Y6m I1 F1 k)
end
abbrev EK := Value -> Option Addr -> St -> Hp -> Prop
def U1 (X : Cx) (EH : EK) : Prop := ∀ (pins : List (Addr × Obj)) (σ : St) (H : Hp) (s : Shared) (a t : Addr) (C : Value) (dd : Option Addr), Inv X pins σ H s -> Flt X pins H s a C t dd -> EH C dd σ H -> X.xe (.ref a) s
def CX1 (P : Program) (w : World) : CXT := fun outer H s E e s' => ∃ (a t : Addr) (C : Value) (dd : Option Addr) (H' : Hp), e = .ref a /\ s'.os = s.os /\ AllBare s'.gens /\ Un (frs outer) [] H H' s.heap s'.heap /\ HOk P w H' s'.heap /\ E C dd H' /\
 (s.heap.get? a = none /\ H' a = none) /\ ∃ T oT ts, s'.heap.get? a = some (A3g C t dd (.ref T)) /\ T ≠ a /\ (s.heap.get? T = none /\ H' T = none) /\ s'.heap.get? T = some oT /\ oT.data = .fields ts /\ ts[3]? = some .none
theorem C9m {P : Program} {w : World} {K : PySem.W.Frag} {mg : Str -> Option Value} {base : Heap} {N : List Str} {qual : Str} {scope : Scope} {f : Addr} {cd : Value} {A : Around} {outer : List Env} {s : Shared} {H : Hp} {E : XK} :
   U1 (A1x (CX1 P w) P w K mg base N qual scope f cd A outer s H E) (fun C dd _ H' => E C dd H') := by
 intro pins σ H' s' a t C dd I F h
 refine V5t (X := A1x (CX1 P w) P w K mg base N qual scope f cd A outer s H E) ⟨rfl, rfl, rfl⟩ I F fun s2 I2 F2 => ?_
 obtain ⟨na, T, oT, ts, e, ne, nT, eT, dT, h3⟩ := F2
 exact ⟨a, t, C, dd, H', rfl, I2.os, I2.bare, I2.base, I2.hok, h, ⟨na.old, na.un⟩, T, oT, ts, e, ne, ⟨nT.old, nT.un⟩, eT, dT, h3⟩
section
variable {X : Cx} {k : Nat} {f C : Addr} {fd : FuncData} {ps : List Str} {sp : Sp} {dvs : List V} {ds : List Value} {EH : EK} {x m : Str} {p pos apos : Pos} {e o : Expr} {es : List Expr} {ta : TE} {t : TA}
theorem came {pins : List (Addr × Obj)} {σ : St} {H : Hp} {s : Shared} {e : Value} {s' : Shared} (hx : U1 X EH) (hex : X.ex = []) (I : Inv X pins σ H s)
   (h : CX1 X.prog X.w X.stack H s (fun C d H' => EH C d σ H') e s') : X.xe e s' := by
 obtain ⟨a, t, C, dd, H', rfl, os, bare, un, hok, hE, ⟨a1, a2⟩, T, oT, ts, z, ne, ⟨t1, t2⟩, eT, dT, h3⟩ := h
 have I' : Inv X pins σ H' s' := I.call' (ch := []) os un hok bare (fun b q => absurd q (by simp))
 exact hx pins σ H' s' a t C dd I' (D0h.flt ⟨I.nw hex a1 a2, T, oT, ts, z, ne, I.nw hex t1 t2, eT, dT, h3⟩) hE
theorem C7h {pins : List (Addr × Obj)} {σ : St} {H : Hp} {s : Shared} {Q : VK} {us : List Value} {vs : List V} (F : A8 X.prog X.w X.K X.mg X.base (CX1 X.prog X.w) k f fd ps sp) (hr : A0m k X.A) (hb : Binds X.K fd ps ds) (hd : U2 dvs ds)
   (hx : U1 X EH) (hex : X.ex = []) (I : Inv X pins σ H s) (r : U2 vs us) (h : sp (vs ++ dvs) H Q (fun C d H' => EH C d σ H')) : wpAny (model X.prog X.w) X.A (call (.ref f) us) (EP X pins σ Q) X.xe s := by
 have r2 : U2 (vs ++ dvs) (us ++ ds) := r.append hd
 have hl : (us ++ ds).length = ps.length := by rw [<- r2.length]; exact F.len _ _ _ _ h
 refine wpAny_call (codeAny_mono (F.run X.A X.stack s H ⟨us, []⟩ (us ++ ds) (vs ++ dvs) Q _ hr I.env0 (hb s us I.kIn hl) r2 h) fun r s' hq => ?_)
 cases r with
 | error e => exact came hx hex I hq
 | ok fl =>
   cases fl with
   | ret u => exact I.after hq
   | next => exact False.elim hq
   | brk => exact False.elim hq
   | cont => exact False.elim hq
def C9c (sp : Sp) (dvs : List V) (EH : EK) (t : TA) : TE := fun σ H Q => t σ H fun vs H1 => sp (vs ++ dvs) H1 Q (fun C d H' => EH C d σ H')
theorem Y6b (F : A8 X.prog X.w X.K X.mg X.base (CX1 X.prog X.w) k f fd ps sp) (hr : A0m k X.A) (hg : Gl X x) (hm : X.mg x = some (.ref f)) (hk : PySem.W.keepIn X.K (.ref f) = true) (hb : Binds X.K fd ps ds) (hd : U2 dvs ds)
   (hx : U1 X EH) (ha : PA X (e :: es) t) (hex : X.ex = [] := by rfl) (hdb : (x == ("__debug__" : Str)) = false := by decide) (he : starEach (e :: es) X.env = (false, eval e X.env) :: starEach es X.env := by rfl)
   (hpl : (backTo pos (starEach es X.env)).any (·.1) = false := by rfl) : PE X (.Call (.Name x p) (e :: es) [] pos) (C9c sp dvs EH t) := by
 intro pins s σ H Q I h
 refine wpAny_Call_Name_kw (A3n I hg hm ?_ hdb)
 refine PySem.W.callWith_K (h₀ := X.base) I.ok.mod.kin hk (thn (ha pos pins s σ H _ I h) fun us s1 ⟨vs, H1, I1, r, q⟩ => ⟨I1.kIn, ?_⟩) he hpl
 exact C7h F hr hb hd hx hex I1 r q
theorem V7p (F : A8 X.prog X.w X.K X.mg X.base (CX1 X.prog X.w) k f fd ps sp) (hr : A0m k X.A) (hg : Gl X x) (hm : X.mg x = some (.ref f)) (hk : PySem.W.keepIn X.K (.ref f) = true) (hb : Binds X.K fd ps ds) (hd : U2 dvs ds)
   (hx : U1 X EH) (hex : X.ex = [] := by rfl) (hdb : (x == ("__debug__" : Str)) = false := by decide) : PE X (.Call (.Name x p) [] [] pos) (C9c sp dvs EH Y6n) := by
 intro pins s σ H Q I h
 refine wpAny_Call_Name_kw (A3n I hg hm ?_ hdb)
 exact PySem.W.callWith_K0 I.kIn hk (C7h (us := []) F hr hb hd hx hex I .nil h)
end
section
variable {P : Program} {w : World} {K : PySem.W.Frag} {mg : Str -> Option Value} {base : Heap}
theorem Fun.okE {x qual : Str} {st : Stmt} {f : Addr} {fd : FuncData} {N ps : List Str} {k : Nat} {sp : Sp} (F : Fun K x qual st f fd) (S : C5 N ps (A2 st)) (len : ∀ vs H Q E, sp vs H Q E -> vs.length = ps.length)
   (hbody : ∀ (X : Cx) (cdv : Value) (A : Around) (outer : List Env) (s : Shared) (H : Hp) (vs : List V) (Q : VK) (E : XK), X = A1x (CX1 P w) P w K mg base N qual (A2 st) f cdv A outer s H E -> A0m k X.A -> U1 X (fun C dd _ H' => E C dd H') -> sp vs H Q E ->
     ∃ t, PSs (A1x (CX1 P w) P w K mg base N qual (A2 st) f cdv A outer s H E) (B8 st) t /\ t { nx := fun _ H' => Q .non H', rt := Q } (B6t N vs) H) : A8 P w K mg base (CX1 P w) (k + 1) f fd ps sp := by
 obtain ⟨oc, od, kV, doc, pm, an, cdv, ct, osl, rfl, lk, hc⟩ := F.ex
 exact Y7e lk hc S len fun A outer s H vs Q E hr h => hbody _ cdv A outer s H vs Q E rfl hr C9m h
theorem A8.up {k : Nat} {f : Addr} {fd : FuncData} {ps : List Str} {sp : Sp} (F : A8 P w K mg base CX0 k f fd ps sp) : A8 P w K mg base (CX1 P w) k f fd ps sp := by
 refine ⟨F.len, fun A outer s H args us vs Q E hr e0 hb r h => codeAny_mono (F.run A outer s H args us vs Q E hr e0 hb r h) fun r s' q => ?_⟩
 cases r with
 | error e => exact False.elim q
 | ok fl => cases fl <;> exact q
end
end L2
namespace L2
open PySem PySem.Spec PyProof.Rows PySem.W
theorem A0gw {K : Frag} {h : Heap} {C : Addr} {bmB : List Value} {newId : String} (X : K.In h) (q : excIn K C bmB newId = true) :
   ∃ (bm : List Value) (N : Addr) (nm qn : Str) (bs : List Value) (hd : Bool) (sn : List Str) (sub : List Value) (ab : Bool) (col : Option Bool) (dd : Option Addr) (k0 k1 k2 k3 k5 : Option Value) (mN : Str -> Option Value),
     h.get? C = some (excClassObj nm qn C N bs bm hd sn sub ab col dd k0 k1 k2 k3 k5 newId) /\ h.Ns N mN /\ mN "__init__" = none /\ OwnTail h bmB bm := by
 unfold excIn at q
 split at q
 . rename_i dd cd sl ho
   split at q
   . rename_i C' bm k0 k1 k2 k3 n k5 hm hs
     simp only [Bool.and_eq_true, beq_iff_eq, Bool.not_eq_true'] at q
     obtain ⟨⟨⟨⟨⟨r1, r2⟩, r3⟩, r4⟩, r5⟩, r6⟩ := q
     subst r1 r2
     obtain ⟨a1, a2, a3, a4, a5, a6, a7, a8, a9, a10, a11⟩ := cd
     dsimp only at hm r3 r5 r6
     subst hm r3
     have hsl : sl = #[k0, k1, k2, k3, some (.builtin n), k5] := by
       obtain ⟨l⟩ := sl
       simp only at hs
       rw [hs]
     subst hsl
     exact ⟨bm, a4, a1, a5, a2, a6, a7, a8, a9, a10, dd, k0, k1, k2, k3, k5, _, X _ _ ho, .of_isNs (isNs_of_in X r5), nsMap_none_of_in X r5 r6, tail_of_in X r4⟩
   . cases q
 cases q
section
variable {X : Cx} {x : Str} {p cpos pos : Pos} {e : Expr} {es : List Expr} {t : TA} {C : Addr} {bmB : List Value} {B newId initId : String} {EH : EK}
def A0tu (C : Addr) (EH : EK) (t : TA) : TS := fun _ σ H => t σ H fun vs H1 => vs.length <= sizeLine /\ EH (.ref C) none σ H1
theorem A2n (hg : Gl X x) (hm : X.mg x = some (.ref C)) (q : excIn X.K C bmB newId = true) (FB : ExcBaseFacts B newId initId bmB) (hh : X.A.handled = none) (hx : U1 X EH) (ha : PA X (e :: es) t) (hex : X.ex = [] := by rfl)
   (hdb : (x == ("__debug__" : Str)) = false := by decide) (he : starEach (e :: es) X.env = (false, eval e X.env) :: starEach es X.env := by rfl) (hpl : (backTo cpos (starEach es X.env)).any (·.1) = false := by rfl) :
   PS X (.Raise (some (.Call (.Name x p) (e :: es) [] cpos)) none pos) (A0tu C EH t) := by
 intro pins s σ H D I h
 obtain ⟨bm, N, nm, qn, bs, hd, sn, sub, ab, col, dd, k0, k1, k2, k3, k5, mN, hC, hN, hni, T⟩ := A0gw I.ok.mod.kin q
 refine wpAny_Raise_call_subT (C := C) (nm := nm) (q := qn) (N := N) (bs := bs) (bm := bm) (hdct := hd) (sn := sn) (sub := sub) (ab := ab) (col := col) (dd := dd) (k0 := k0) (k1 := k1) (k2 := k2) (k3 := k3) (k5 := k5) FB (mN := mN) (T.hasType FB.hasBase) hh
   (by rw [he]; show (false || (backTo cpos (starEach es X.env)).any (·.1)) = false; rw [hpl]; rfl) hni (A3n I hg hm ⟨rfl, ?_⟩ hdb)
 have ha' := ha cpos pins s σ H _ I h
 rw [he] at ha' ⊢
 refine Calls.evalArgs_plain (wpAny_mono ha' (fun us s2 ⟨vs, H1, I1, r, z, q⟩ => ⟨rfl, by rw [<- r.length]; exact z, I1.bk _ _ hC, hN.keeps I1.bk, T.keeps I1.bk, fun h' a m => ?_⟩) fun _ _ y => y)
 have I2 : Inv X pins σ H1 { s2 with heap := h' } := I1.kept (t' := s2.toks) m.keeps
 obtain ⟨t', e1, tn, e2⟩ := m.there
 exact hx pins σ H1 _ a t' (.ref C) none I2 ⟨I1.nw hex m.new (I1.hok.new m.new), .none, e1, .inl rfl, fun T z => nomatch z⟩ q
end
section
variable {X : Cx} {pins : List (Addr × Obj)} {σ : St} {H : Hp} {s : Shared}
end
section
variable {X : Cx} {pins pins' : List (Addr × Obj)} {σ : St} {H : Hp} {s : Shared} {a : Addr} {E : Value -> Shared -> Prop}
end
theorem B9z {K : Frag} {M : Model} {h : Heap} {R : Addr} (X : K.In h) (c : (clsIn K R).isSome = true) : Looks M h (isType (.ref R)) true := by
 unfold clsIn at c
 split at c
 . rename_i ho
   intro A' Q' E' s' k q
   unfold isType loadHead
   exact wpAny_bind (wpAny_loadPart (k _ _ (X _ _ ho)) (wpAny_pure q))
 cases c
section
variable {X : Cx} {x n : Str} {np hpos pos : Pos} {R : Addr} {i : Nat} {body suite : List Stmt} {b₀ : Stmt} {tb : EK -> TS} {ts : Addr -> TS}
end
structure ExcK (K : Frag) (C : Addr) : Prop where
 ga : findIn K (.ref C) "__getattribute__" = some (some (.builtin "BaseException.__getattribute__"))
 gh : findIn K (.ref C) "__getattr__" = some none
 ca : findIn K (.ref C) "__class__" = some (some (.builtin "object.__class__"))
 sn : specialIn K (.builtin "object.__class__") "__get__" = some (some (.builtin "getset_descriptor.__get__"))
 tk : takesIn K (.builtin "object.__class__") = some true
 ob : mroIn K C (.type "object") = some true
 be : subIn K (.ref C) (.type "BaseException") = some true
 cl : (clsIn K C).isSome = true
theorem B1g {prog : Program} {w : World} {A : Around} {E : Value -> Shared -> Prop} {s : Shared} {K : Frag} {a C : Addr} {oa : Obj} {od : Option Obj} {Q : Option Value -> Shared -> Prop} (F : ExcK K C) (X : K.In s.heap) (I : PySem.W.InstAt s.heap a oa C od)
   (h : Q (some (.ref C)) { s with toks := s.toks + 1 }) : wpAny (model prog w) A (getAttr? (.ref a) "__class__") Q E s := by
 obtain ⟨hp, g, d, t, os⟩ := s
 have L0 := I.type (M := model prog w)
 have L1 := looks_findIn (M := model prog w) X F.ga
 have L2 := looks_findIn (M := model prog w) X F.gh
 have L3 : Looks (model prog w) hp (isInstance (.ref a) (.type "BaseException")) true := L0.andThen (looks_subIn X F.be)
 have hf : findObj K C od "__class__" = some (.bind (.builtin "getset_descriptor.__get__") (.builtin "object.__class__")) := by
   obtain ⟨cd, hc⟩ := Option.isSome_iff_exists.mp F.cl
   unfold findObj
   rw [hc, Option.bind_some, F.ca, Option.bind_some]
   simp [F.sn, F.tk]
 have L4 := looks_find (M := model prog w) X I hf
 have hk : builtinKind "BaseException.__getattribute__" = some .slot := by decide +kernel
 have hsplit : splitId "BaseException.__getattribute__" = some ("BaseException", "__getattribute__") := by decide +kernel
 have hargs := PySem.F.args_bexc_ga (.ref a) (.str "__class__" t)
 have hb := PySem.F.attr_ValueError.ga.bind (.ref a)
 unfold getAttr? getAttrBy? getAttrBy
 refine wpAny_bind (wpAny_mkText (wpAny_bind (wpAny_attempt (wpAny_holding (wpAny_bind (L0.at (wpAny_bind (L1.at ?_))))))))
 dsimp only
 rw [if_neg (show ¬ ((onTheHeap (Value.ref C) && Value.builtin "BaseException.__getattribute__" == Value.builtin "object.__getattribute__") = true) by
   rw [show (Value.builtin "BaseException.__getattribute__" == Value.builtin "object.__getattribute__") = false by decide +kernel, Bool.and_false]; exact Bool.false_ne_true)]
 unfold getAttrByItsOwn
 refine wpAny_bind (m := hookBefore (.ref C)) (L2.at ?_)
 refine wpAny_bind (wpAny_attempt (wpAny_holding ?_))
 unfold callGetattribute
 rw [if_neg (by decide)]
 unfold boundAndCalled
 rw [hb]
 refine wpAny_bind (wpAny_pure ?_)
 refine wpAny_call (codeAny_call_builtin PySem.F.attr_ValueError.ga.plain PySem.F.entry_bexc_ga ?_)
 have chk : ∀ {A' : Around} {Q' : Unit -> Shared -> Prop} {E' : Value -> Shared -> Prop}, Q' () ⟨hp, g, d, t + 1, os⟩ -> wpAny (model prog w) A' (checkBuiltinCall "BaseException.__getattribute__" ⟨[.ref a, .str "__class__" t], []⟩) Q' E' ⟨hp, g, d, t + 1, os⟩ := by
   intro A' Q' E' hq
   simp only [checkBuiltinCall, hk, hsplit]
   refine wpAny_bind ?_
   refine L3.at ?_
   repeat (first | assumption | wp_step)
 refine chk ?_
 show wpAny _ _ (Builtin.«object.__getattribute__» ⟨[.ref a, .str "__class__" t], []⟩) _ _ _
 unfold Builtin.«object.__getattribute__»
 refine wpAny_bind (wpAny_pure ?_)
 refine wpAny_bind (wpAny_pure ?_)
 refine wpAny_bind (L0.at (wpAny_bind (L4.at ?_)))
 dsimp only
 show wpAny _ _ (holding [Value.builtin "object.__class__"] (call (.builtin "getset_descriptor.__get__") [.builtin "object.__class__", .ref a, .ref C]) >>= ret) _ _ _
 refine wpAny_bind (wpAny_holding (wpAny_call (class_get (s := ⟨hp, g, d, t + 1, os⟩) X I F.ob (wpAny_pure ?_))))
 exact handed_on rfl (wpAny_pure h)
def A1b (X : Cx) : Prop := X.A.handled = none \/ ∃ x o u vs, X.A.handled = some (.ref x) /\ X.H₀ x = some (.frz o u) /\ o.data = .fields vs /\ vs[2]? = some .none
section
variable {X : Cx} {pins : List (Addr × Obj)} {σ : St} {H : Hp} {s : Shared}
theorem Inv.hdB {it : Addr} (I : Inv X pins σ H s) (h : A1b X) (hn : H it = none) : ∀ h' : Heap, Heap.ExtBut it s.heap h' -> Hd X.A h' := by
 intro h' k
 rcases h with z | ⟨x, o, u, vs, z, e, d, n⟩
 . exact .inl z
 have q := I.base.frzs x o u e
 exact .inr ⟨x, o, vs, z, k x o (fun w => by rw [w, hn] at q; cases q) (I.hok x _ q).1, d, n⟩
end
structure Y8m (P : Program) (w : World) (K : Frag) (tg : Expr) (J : It) (it : Addr) (tn : Nat -> Heap -> Prop) : Prop where
 obj : ∀ i h, tn i h -> ∃ o, h.get? it = some o /\ ∀ v, o.data ≠ .cell v
 keep : ∀ i h h', tn i h -> (∀ o, h.get? it = some o -> h'.get? it = some o) -> tn i h'
 item : ∀ (X : Cx), X.prog = P -> X.w = w -> X.K = K -> A1b X -> ∀ (i : Nat) (pins : List (Addr × Obj)) (s : Shared) (σ : St) (H : Hp) (E : Value -> Shared -> Prop), Inv X pins σ H s -> A5f X pins H it -> tn i s.heap -> J.go i H ->
   wpAny (model P w) X.A (pyNext (.ref it)) (fun r s1 => ∃ u, r = some u /\
     wpAny (model P w) X.A (letOwnedTupleGo tg (.ref it) u) (fun _ s2 => ∃ x, Inv X pins σ H s2 /\ V0 x u /\ J.yld i H x H /\ tn (i + 1) s2.heap) E s1) E s
 done : ∀ (X : Cx), X.prog = P -> X.w = w -> X.K = K -> A1b X -> ∀ (i : Nat) (pins : List (Addr × Obj)) (s : Shared) (σ : St) (H : Hp) (E : Value -> Shared -> Prop), Inv X pins σ H s -> A5f X pins H it -> tn i s.heap -> J.stop i H ->
   wpAny (model P w) X.A (pyNext (.ref it)) (fun r s1 => r = none /\ Inv X pins σ H s1) E s
 self : ∀ (A : Around) (i : Nat) (s : Shared) (Q : Value -> Shared -> Prop) (E : Value -> Shared -> Prop), tn i s.heap -> Q (.ref it) s -> wpAny (model P w) A (pyIter (.ref it)) Q E s
theorem U1b {P : Program} {w : World} {K : Frag} {tg : Expr} (a it : Addr) : Y8m P w K tg (Itl K a) it (fun i h => h.IsListIter it a i) where
 obj := fun i h ⟨o, e, c, d⟩ => ⟨o, e, fun v z => by rw [d] at z; cases z⟩
 keep := fun i h h' st k => st.at fun o e => k o e
 item := by
   intro X hP hw hK hc i pins s σ H E I hf st hg
   subst hP hw hK
   obtain ⟨xs, x, hq, hx⟩ := hg
   obtain ⟨its, rv, p, hz⟩ := I.list hq
   obtain ⟨u, hu, ru⟩ := rv.get hx
   obtain ⟨f0, f1, f2, f3, f4, f5⟩ := hf
   refine wpAny_pyNext_list_item st p.isList (x := u) (by simpa using hu) fun h' st' sb => ?_
   have I1 : Inv X pins σ H { s with heap := h' } := I.turned (t' := s.toks) (fun b o hb e => (sb.2 b hb).trans e) f0 f1 f3 f4 f5
   obtain ⟨o, e, c, d⟩ := id st'
   exact ⟨u, rfl, V4f (s := { s with heap := h' }) e c d (by decide) ⟨x, I1, ru, ⟨rfl, fun ys hy => by rw [I.list_inj hy hq]; exact hx⟩, st'⟩⟩
 done := by
   intro X hP hw hK hc i pins s σ H E I hf st hg
   subst hP hw hK
   obtain ⟨xs, hq, hx⟩ := hg
   obtain ⟨its, rv, p, hz⟩ := I.list hq
   obtain ⟨f0, f1, f2, f3, f4, f5⟩ := hf
   have hl := rv.length
   exact C1r (I.hdB hc f0) st p.isList (by simp; omega) fun h' eb => ⟨rfl, I.turned (t' := s.toks) (fun b o hb e => eb b o hb e) f0 f1 f3 f4 f5⟩
 self := fun _ _ _ _ _ st h => wpAny_pyIter_listiter st h
theorem V7q {P : Program} {w : World} {K : Frag} {tg : Expr} (a it : Addr) : Y8m P w K tg (Itt K a) it (fun i h => h.IsTupleIter it a i) where
 obj := fun i h ⟨o, e, c, d⟩ => ⟨o, e, fun v z => by rw [d] at z; cases z⟩
 keep := fun i h h' st k => st.at fun o e => k o e
 item := by
   intro X hP hw hK hc i pins s σ H E I hf st hg
   subst hP hw hK
   obtain ⟨xs, x, hq, hx⟩ := hg
   obtain ⟨its, rv, p, hz⟩ := I.tuple hq
   obtain ⟨u, hu, ru⟩ := rv.get hx
   obtain ⟨f0, f1, f2, f3, f4, f5⟩ := hf
   refine wpAny_pyNext_tuple_item st (show s.heap.IsTuple a its.toArray from p) (x := u) (by simpa using hu) fun h' st' sb => ?_
   have I1 : Inv X pins σ H { s with heap := h' } := I.turned (t' := s.toks) (fun b o hb e => (sb.2 b hb).trans e) f0 f1 f3 f4 f5
   obtain ⟨o, e, c, d⟩ := id st'
   exact ⟨u, rfl, V4f (s := { s with heap := h' }) e c d (by decide) ⟨x, I1, ru, ⟨rfl, fun ys hy => by rw [I.tuple_inj hy hq]; exact hx⟩, st'⟩⟩
 done := by
   intro X hP hw hK hc i pins s σ H E I hf st hg
   subst hP hw hK
   obtain ⟨xs, hq, hx⟩ := hg
   obtain ⟨its, rv, p, hz⟩ := I.tuple hq
   obtain ⟨f0, f1, f2, f3, f4, f5⟩ := hf
   have hl := rv.length
   exact C7c (I.hdB hc f0) st p (by simp; omega) fun h' eb => ⟨rfl, I.turned (t' := s.toks) (fun b o hb e => eb b o hb e) f0 f1 f3 f4 f5⟩
 self := fun _ _ _ _ _ st h => wpAny_pyIter_tupleiter st h
def PIH (X : Cx) (tg iter : Expr) (wi : TI) : Prop :=
 ∀ (pins : List (Addr × Obj)) (s : Shared) (σ : St) (H : Hp) (R : It -> Hp -> Prop), Inv X pins σ H s -> wi σ H R ->
   wpAny (model X.prog X.w) X.A (eval iter X.env) (fun v s1 => wpAny (model X.prog X.w) X.A (pyIter v) (fun itv s2 => ∃ (it : Addr) (tn : Nat -> Heap -> Prop) (J : It) (H' : Hp), itv = .ref it /\ Inv X pins σ H' s2 /\ Y8m X.prog X.w X.K tg J it tn /\ tn 0 s2.heap /\
     A5f X pins H' it /\ R J H') X.xe s1) X.xe s
section
variable {X : Cx} {tg : Expr}
theorem C0b {l : Expr} {tl : TE} (hl : PE X l tl) : PIH X tg l (A0qx X.K tl) := by
 intro pins s σ H R I h
 refine thn (hl pins s σ H _ I h) fun v s1 ⟨x, H1, I1, r1, q1⟩ => ?_
 obtain ⟨a, e, ⟨xs, hq⟩, q⟩ := q1
 subst e
 cases r1
 obtain ⟨its, rv, p, hz⟩ := I1.list hq
 exact wpAny_pyIter_list p.isList ⟨s1.heap.objs.size, _, _, H1, rfl, I1.kept (t' := s1.toks) fun b o e => Heap.get?_push_of_some _ e, U1b a _, ⟨_, Heap.get?_push_size _ rfl, rfl, rfl⟩, I1.fpOk (Nat.le_refl _) (I1.hok.fresh (Nat.le_refl _)), q⟩
theorem A0gv {l : Expr} {tl : TE} (hl : PE X l tl) : PIH X tg l (iTup X.K tl) := by
 intro pins s σ H R I h
 refine thn (hl pins s σ H _ I h) fun v s1 ⟨x, H1, I1, r1, q1⟩ => ?_
 obtain ⟨a, e, ⟨xs, hq⟩, q⟩ := q1
 subst e
 cases r1
 obtain ⟨its, rv, p, hz⟩ := I1.tuple hq
 exact wpAny_pyIter_tuple (show s1.heap.IsTuple a its.toArray from p) ⟨s1.heap.objs.size, _, _, H1, rfl, I1.kept (t' := s1.toks) fun b o e => Heap.get?_push_of_some _ e, V7q a _, ⟨_, Heap.get?_push_size _ rfl, rfl, rfl⟩, I1.fpOk (Nat.le_refl _) (I1.hok.fresh (Nat.le_refl _)), q⟩
end
abbrev Cx.comp (X : Cx) (scope : Scope) (N : List Str) (C : Addr) (s₀ : Shared) (H₀ : Hp) (ex : List Addr) (pins : List (Addr × Obj)) : Cx :=
 { X with N := N, s₀ := s₀, H₀ := H₀, env := compEnv scope C X.env, outer := X.stack, ex := ex, fn := fun _ => false, pn := pins, xe := fun _ _ => False }
structure B5x (N : List Str) (sc : Scope) : Prop where
 kind : sc.kind = .function
 free : ∀ y ∈ sc.names, y.2 ≠ .free
 cell : ∀ y ∈ sc.names, y.2 ≠ .cell
 loc : ∀ y ∈ sc.names, y.2 = .local -> sc.names.lookup y.1 = some .local
 nd : N.Nodup
def U0a (n : Nat) (wi : TI) (g : TG) (te : TE) : TE := fun σ H Q => wi σ H fun J H1 => ∀ D, H1 D = none ->
 ∃ (m : Nat) (W : Nat -> List V -> Hp -> Prop), W 0 [] (upd H1 D (.lst [])) /\ ∀ i ys H2, W i ys H2 -> i <= m /\ H2 D = some (.lst ys) /\ ((J.stop i H2 /\ Q (.ref D) H2) \/ (i < m /\ J.go i H2 /\ ∀ x H3, J.yld i H2 x H3 ->
   g x (List.replicate n none) H3 fun σ4 H4 => te σ4 H4 fun y H6 => H6 D = some (.lst ys) /\ ys.length < sizeLine /\ W (i + 1) (ys ++ [y]) (upd H6 D (.lst (ys ++ [y])))))
theorem J4r {prog : Program} {w : World} {A : Around} {s : Shared} {elt target iter : Expr} {scope : Scope} {pos : Pos} {it acc : Value} {env : Env} {R : Result -> Shared -> Prop} (I : Nat -> Shared -> Prop)
   (turn : ∀ n s, I n s -> wpAny (model prog w) A (pyNext it) (fun r s₁ => match r with
     | none => R (.ok .next) s₁
     | some v => wpAny (model prog w) A (letOwnedTupleGo target it v) (fun _ s₀ => wpAny (model prog w) A (assign target env v) (fun _ s₂ => wpAny (model prog w) A (eval elt env) (fun x s₄ =>
         wpAny (model prog w) A (call (.builtin "list.append") [acc, x]) (fun _ s₅ => ∃ m, m < n /\ I m s₅) (notedBy (model prog w) A env fun e s' => R (.error e) s') s₄) (notedBy (model prog w) A env fun e s' => R (.error e) s') s₂)
         (notedBy (model prog w) A env fun e s' => R (.error e) s') s₀) (notedBy (model prog w) A env fun e s' => R (.error e) s') s₁) (notedBy (model prog w) A env fun e s' => R (.error e) s') s)
   (n : Nat) (h : I n s) : codeAny (model prog w) A (.compLoop (.ListComp elt [⟨target, iter, [], 0⟩] scope pos) 0 it acc env) R s := by
 refine codeAny_loop rfl I (fun n s hI => ?_) n h
 show wpAny _ A ((compTurn (.ListComp elt [⟨target, iter, [], 0⟩] scope pos) 0 it acc env).onRaise (fun x => do noteFrame x env; theTreesLotGoes x)) _ _ s
 refine wpAny_noted ?_; rw [compTurn_list1]
 refine wpAny_bind (wpAny_standAt (wpAny_bind (wpAny_mono (turn n s hI) (fun r s₁ h₁ => ?_) fun _ _ z => z)))
 cases r with
 | none => exact wpAny_pure h₁
 | some v =>
   refine wpAny_bind (wpAny_mono h₁ (fun _ s₀ q₀ => ?_) fun _ _ z => z)
   refine wpAny_bind (wpAny_mono q₀ (fun _ s₂ q₂ => ?_) fun _ _ z => z)
   exact wpAny_bind (wpAny_bind (wpAny_mono q₂ (fun x s₄ q₄ => wpAny_bind (wpAny_mono q₄ (fun _ s₅ q₅ => wpAny_pure (wpAny_pure ⟨rfl, q₅⟩)) fun _ _ z => z)) fun _ _ z => z))
section
variable {X : Cx}
theorem Y5z {pins : List (Addr × Obj)} {σ : St} {H : Hp} {s : Shared} {scope : Scope} {N : List Str} {it : Addr} {h' : Heap} (S : B5x N scope) (I : Inv X pins σ H s) (hf : A5f X pins H it) (hit : ∃ o, s.heap.get? it = some o) (hnb : X.base.get? it = none)
   (hns : h'.Ns s.heap.objs.size (fun _ => none)) (hsb : ∀ b o, s.heap.get? b = some o -> h'.get? b = some o) {tk : Nat} :
   Inv (X.comp scope N s.heap.objs.size s H [it] (X.pn ++ pins)) [] (List.replicate N.length none) H { s with heap := h', toks := tk } := by
 obtain ⟨f0, f1, f2, f3, f4, f5⟩ := hf
 obtain ⟨oi, ei⟩ := hit
 have lt : it < s.heap.objs.size := Heap.lt_size ei
 have nc : ∀ x c, (compEnv scope s.heap.objs.size X.env).cells.lookup x = some c -> False := fun x c z => by cases z
 have nk : ∀ x, ¬ ((compEnv scope s.heap.objs.size X.env).kindOf x = some .cell \/ (compEnv scope s.heap.objs.size X.env).kindOf x = some .free) := by
   intro x z
   have z : scope.names.lookup x = some .cell \/ scope.names.lookup x = some .free := z
   rcases z with z | z
   . exact S.cell _ (PySem.mem_of_lookup z) rfl
   . exact S.free _ (PySem.mem_of_lookup z) rfl
 refine ⟨⟨I.ok.mod, S.kind, I.ok.glob, I.ok.blt, Nat.le_refl _, fun x y c z => (nc x c z).elim, fun x z => (nk x z).elim, fun x c _ z => (nc x c z).elim, I.ok.hd, I.ok.frames, .inl rfl, fun b hb => ?_, I.bs, Nat.le_trans I.ok.bsz I.sz, fun b o e hb => ?_, fun b hb hfs => ?_, I.stack, I.stkFree⟩,
   rfl, I.bare, Un.kept hsb, ⟨_, hns, fun i x v e1 e2 e3 => ?_⟩, fun x c z => (nc x c z).elim, I.hok.fresh (Nat.le_refl _), fun x c z => (nc x c z).elim, fun p hp => ?_, I.hok.kept hsb, by simp⟩
 . have e : b = it := by simpa using hb
   subst e
   exact ⟨Nat.ne_of_lt lt, fun x c z => (nc x c z).elim⟩
 . have e' : b = it := by simpa using hb
   subst e'
   rw [hnb] at e
   cases e
 . have e' : b = it := by simpa using hb
   subst e'
   rcases List.mem_cons.mp (I.stkSub b hfs) with z | z
   . exact f1 z
   . exact f2 z
 . rw [List.getElem?_replicate] at e2
   split at e2 <;> cases e2
 have hp' : p ∈ X.pn ++ pins := by simpa using hp
 obtain ⟨q1, q2, q3, q4, q5⟩ := I.pin p hp'
 refine ⟨hsb _ _ q1, q2, Nat.ne_of_lt (Heap.lt_size q1), fun z => ?_, q5⟩
 rcases List.mem_cons.mp (I.stkSub p.1 z) with z | z
 . exact q3 z
 exact q4 z
theorem C7y {elt target iter : Expr} {scope : Scope} {pos : Pos} {N : List Str} {wi : TI} {g : TG} {te : TE} (S : B5x N scope) (hd : A1b X) (hi : PIH X target iter wi) (hex : X.ex = [])
   (hg : ∀ C s₀ H₀ ex pn, A1b (X.comp scope N C s₀ H₀ ex pn) -> PG (X.comp scope N C s₀ H₀ ex pn) target g)
   (he : ∀ C s₀ H₀ ex pn, A1b (X.comp scope N C s₀ H₀ ex pn) -> PE (X.comp scope N C s₀ H₀ ex pn) elt te)
   {pins : List (Addr × Obj)} {s : Shared} {σ : St} {H : Hp} {Q : VK} {RR : Value -> Env -> Result -> Shared -> Prop} (I : Inv X pins σ H s) (h : (U0a N.length wi g te) σ H Q)
   (hRR : ∀ (D C : Addr) (s6 : Shared) (H5 : Hp) (mm : Str -> Option Value), Inv X pins σ H5 s6 -> s6.heap.Ns C mm -> A5f X pins H5 C -> Q (.ref D) H5 -> RR (.ref D) (compEnv scope C X.env) (.ok .next) s6) :
   wpAny (model X.prog X.w) X.A (eval iter X.env) (fun v s1 => wpAny (model X.prog X.w) X.A (pyIter v) (fun itv s2 => wpAny (model X.prog X.w) X.A (newList []) (fun acc s3 => wpAny (model X.prog X.w) X.A (newFunctionEnv scope X.env.globals [] [] X.env.qual none .none (some X.env)) (fun cenv s4 =>
     codeAny (model X.prog X.w) X.A (.compStart (.ListComp elt [⟨target, iter, [], 0⟩] scope pos) 0 itv acc { cenv with scope := scope }) (RR acc { cenv with scope := scope }) s4) X.xe s3) X.xe s2) X.xe s1) X.xe s := by
 refine thn (hi pins s σ H _ I h) fun v s1 h1 => thn h1 fun itv s2 h2 => ?_
 obtain ⟨it, tn, J, H2, rfl, I2, T, st2, f2, R⟩ := h2
 obtain ⟨oi, ei, di⟩ := T.obj _ _ st2
 have hf2 := I2.hok.fresh (Nat.le_refl _)
 refine wpAny_newObj_type ?_
 have I3 : Inv X pins σ (upd H2 s2.heap.objs.size (.lst [])) { s2 with heap := s2.heap.push { cls := .type "list", dict := none, data := .seq ([] : List Value).toArray } } := Inv.lnew (t' := s2.toks) I2 .nil (Nat.zero_le _)
 refine wpAny_newFunctionEnv S.cell (by intro y hy; simp at hy) (fun h4 hns hsb => ?_) S.kind
 dsimp only at hns hsb ⊢
 generalize hG : s2.heap.push { cls := .type "list", dict := none, data := .seq ([] : List Value).toArray } = G at I3 hns hsb ⊢
 generalize hD : s2.heap.objs.size = D at I3 hf2
 have nD : it ≠ D := by rw [<- hD]; exact Nat.ne_of_lt (Heap.lt_size ei)
 have eiG : G.get? it = some oi := by rw [<- hG]; exact Heap.get?_push_of_some _ ei
 have kp : ∀ b o, G.get? b = some o -> h4.get? b = some o := fun b o e => hsb.extBut b o (Nat.ne_of_lt (Heap.lt_size e)) (Heap.get?_push_of_some _ e)
 have f3 : A5f X pins (upd H2 D (.lst [])) it := ⟨by rw [G6 nD]; exact f2.1, f2.2⟩
 have nb : X.base.get? it = none := by
   cases q : X.base.get? it with
   | none => rfl
   | some o =>
     have := (I.ok.bs it o q).1
     rcases f2.2.2.2.1 with z | z
     . rw [hex] at z; simp at z
     . exact absurd (Nat.lt_of_lt_of_le (Heap.lt_size this) z) (Nat.lt_irrefl _)
 have hns' : h4.Ns G.objs.size (fun _ => none) := by
   obtain ⟨o, es, ep, q1, q2, q3, q4⟩ := hns
   exact ⟨o, es, ep, q1, q2, q3, fun x => by rw [q4]; rfl⟩
 have I4 := Y5z (tk := s2.toks + ([] : List (Str × Value)).length) S I3 f3 ⟨oi, eiG⟩ nb hns' kp
 have hdc : A1b (X.comp scope N G.objs.size { s2 with heap := G } (upd H2 D (.lst [])) [it] (X.pn ++ pins)) := by
   rcases hd with z | ⟨x, o, u, vs, z, e, d, n⟩
   . exact .inl z
   . refine .inr ⟨x, o, u, vs, z, ?_, d, n⟩
     have q := I2.base.frzs x o u e
     show upd H2 D (.lst []) x = _
     rw [G6 fun w => by rw [w, hf2] at q; cases q]
     exact q
 obtain ⟨m, W, w0, turn⟩ := R D hf2
 have gg := hg _ _ _ _ _ hdc
 have ee := he _ _ _ _ _ hdc
 have fpc : ∀ {H' : Hp} {σ' : St} {s' : Shared} {pl : List (Addr × Obj)}, Inv (X.comp scope N G.objs.size { s2 with heap := G } (upd H2 D (.lst [])) [it] (X.pn ++ pins)) pl σ' H' s' -> H' it = none -> (∀ p ∈ pl, p.1 ≠ it) -> A5f (X.comp scope N G.objs.size { s2 with heap := G } (upd H2 D (.lst [])) [it] (X.pn ++ pins)) pl H' it := by
   intro H' σ' s' pl J' hn hp
   refine ⟨hn, Nat.ne_of_lt (Heap.lt_size eiG), ?_, .inl (List.mem_singleton.mpr rfl), (fun x c z => nomatch z), fun p hpp => ?_⟩
   . intro z
     rcases List.mem_cons.mp (I.stkSub it z) with z | z
     . exact f2.2.1 z
     . exact f2.2.2.1 z
   . rcases List.mem_append.mp hpp with z | z
     . exact f2.2.2.2.2.2 p z
     . exact hp p z
 have loop : codeAny (model X.prog X.w) X.A (.compLoop (.ListComp elt [⟨target, iter, [], 0⟩] scope pos) 0 (.ref it) (.ref D) (compEnv scope G.objs.size X.env))
     (RR (.ref D) (compEnv scope G.objs.size X.env))
     { s2 with heap := h4, toks := s2.toks + ([] : List (Str × Value)).length } := by
   refine J4r (fun k s' => ∃ i ys H', k = m + 1 - i /\ Inv (X.comp scope N G.objs.size { s2 with heap := G } (upd H2 D (.lst [])) [it] (X.pn ++ pins)) [] (List.replicate N.length none) H' s' /\ tn i s'.heap /\ H' it = none /\ W i ys H') ?_ (m + 1)
     ⟨0, [], _, rfl, I4, T.keep _ _ _ st2 fun o e => kp it o (by rw [<- hG]; exact Heap.get?_push_of_some _ e), f3.1, w0⟩
   rintro k s5 ⟨i, ys, H5, rfl, I5, st5, n5, w5⟩
   obtain ⟨hi5, hD5, w5⟩ := turn i ys H5 w5
   rcases w5 with ⟨stop, q⟩ | ⟨lt5, go, step⟩
   . refine wpAny_mono (T.done (X.comp scope N G.objs.size { s2 with heap := G } (upd H2 D (.lst [])) [it] (X.pn ++ pins)) rfl rfl rfl hdc i [] s5 _ H5 (fun _ _ => False) I5 (fpc I5 n5 (by simp)) st5 stop) (fun r s6 z => ?_) (fun _ _ z => z.elim)
     obtain ⟨rfl, I6⟩ := z
     obtain ⟨mm, hn6, _⟩ := I6.loc
     have B6 := I6.base
     have J6 : Inv X pins σ H5 s6 := by
       refine I3.call' (ch := [it]) I6.os ⟨B6.keep, B6.slot, B6.free, B6.there, B6.tups, B6.frzs, B6.tbls⟩ I6.hok I6.bare (fun b hb => ?_)
       have e : b = it := by simpa using hb
       subst e
       exact ⟨f2.2.2.2.1, f2.2.1, f2.2.2.2.2.1, f2.2.2.2.2.2⟩
     have szG : X.s₀.heap.objs.size <= G.objs.size := I3.sz
     refine hRR D G.objs.size s6 H5 mm J6 hn6 ⟨I6.free, ?_, ?_, .inr szG, ?_, ?_⟩ q
     . exact Nat.ne_of_gt I3.lt
     . intro z
       obtain ⟨_, o, ho, _⟩ := I3.funs.mem z
       exact Nat.lt_irrefl _ (Heap.lt_size ho)
     . rintro x c z rfl
       obtain ⟨v', o, ho, _⟩ := I3.cell x _ z
       exact Nat.lt_irrefl _ (Heap.lt_size ho)
     . rintro p hp z
       have zz := (I3.pin p hp).1
       rw [z] at zz
       exact Nat.lt_irrefl _ (Heap.lt_size zz)
   . refine wpAny_mono (T.item (X.comp scope N G.objs.size { s2 with heap := G } (upd H2 D (.lst [])) [it] (X.pn ++ pins)) rfl rfl rfl hdc i [] s5 _ H5 (fun _ _ => False) I5 (fpc I5 n5 (by simp)) st5 go) (fun r s6 z => ?_) (fun _ _ z => z.elim)
     obtain ⟨u, rfl, z⟩ := z
     refine wpAny_mono z (fun _ s7 z => ?_) (fun _ _ z => z.elim)
     obtain ⟨x, I7, rx, yl, st7⟩ := z
     obtain ⟨o7, e7, d7⟩ := T.obj _ _ st7
     obtain ⟨p0, p1, p2, _⟩ := fpc I7 n5 (by simp)
     have I7' : Inv (X.comp scope N G.objs.size { s2 with heap := G } (upd H2 D (.lst [])) [it] (X.pn ++ pins)) [(it, o7)] (List.replicate N.length none) H5 s7 := I7.pins_of fun p hp => by
       have e : p = (it, o7) := by simpa using hp
       subst e
       exact ⟨e7, p0, p1, p2, d7⟩
     have back : ∀ {i' : Nat} {ys' : List V} {H' : Hp} {σ' : St} {s' : Shared}, i' = i + 1 -> Inv (X.comp scope N G.objs.size { s2 with heap := G } (upd H2 D (.lst [])) [it] (X.pn ++ pins)) [(it, o7)] σ' H' s' -> W i' ys' H' ->
         ∃ k', k' < m + 1 - i /\ ∃ i ys H', k' = m + 1 - i /\ Inv (X.comp scope N G.objs.size { s2 with heap := G } (upd H2 D (.lst [])) [it] (X.pn ++ pins)) [] (List.replicate N.length none) H' s' /\ tn i s'.heap /\ H' it = none /\ W i ys H' := by
       rintro i' ys' H' σ' s' rfl J' w'
       obtain ⟨q1, q2, _⟩ := J'.pin (it, o7) (List.mem_append_right _ (List.mem_singleton.mpr rfl))
       have jl : σ'.length = N.length := J'.len
       refine ⟨m + 1 - (i + 1), by omega, i + 1, ys', H', rfl, Inv.weak (J'.pins_of fun p hp => absurd hp (by simp)) (by rw [jl]; simp) (fun j v z => ?_), T.keep _ _ _ st7 fun o z => ?_, q2, w'⟩
       . rw [List.getElem?_replicate] at z
         split at z <;> cases z
       . rw [e7] at z
         cases z
         exact q1
     refine wpAny_mono (gg [(it, o7)] s7 _ H5 x u _ I7' rx (step x H5 yl)) (fun _ s8 z => ?_) (fun _ _ z => z.elim)
     obtain ⟨σ8, H8, I8, q8⟩ := z
     refine wpAny_mono (ee [(it, o7)] s8 σ8 H8 _ I8 q8) (fun y s10 z => ?_) (fun _ _ z => z.elim)
     obtain ⟨yv, H10, I10, ry, hD10, hz10, w10⟩ := z
     refine wpAny_mono (B5t (X := X.comp scope N G.objs.size { s2 with heap := G } (upd H2 D (.lst [])) [it] (X.pn ++ pins)) [(it, o7)] s10 σ8 H10 (.ref D) [yv] (.ref D) [y] (fun _ H11 => W (i + 1) (ys ++ [yv]) H11) I10 rfl (.cons ry .nil) ⟨D, ys, yv, rfl, rfl, hD10, hz10, w10⟩) (fun _ s11 z => ?_) (fun _ _ z => z.elim)
     obtain ⟨_, H11, I11, _, w11⟩ := z
     exact back rfl I11 w11
 exact codeAny_compStart_list loop (T.self _ 0 _ _ _ (T.keep _ _ _ st2 fun o e => kp it o (by rw [<- hG]; exact Heap.get?_push_of_some _ e)) loop)
theorem V3b {pins : List (Addr × Obj)} {σ : St} {H : Hp} {s : Shared} {C : Addr} {h' : Heap} (I : Inv X pins σ H s) (f : A5f X pins H C) (sb : Heap.SameBut C s.heap h') : Inv X pins σ H { s with heap := h' } :=
 I.turned (t' := s.toks) (fun b o hb e => (sb.2 b hb).trans e) f.1 f.2.1 f.2.2.2.1 f.2.2.2.2.1 f.2.2.2.2.2
theorem J5b {elt target iter : Expr} {scope : Scope} {pos : Pos} {N : List Str} {wi : TI} {g : TG} {te : TE} (S : B5x N scope) (hd : A1b X) (hi : PIH X target iter wi) (hex : X.ex = [])
   (hg : ∀ C s₀ H₀ ex pn, A1b (X.comp scope N C s₀ H₀ ex pn) -> PG (X.comp scope N C s₀ H₀ ex pn) target g)
   (he : ∀ C s₀ H₀ ex pn, A1b (X.comp scope N C s₀ H₀ ex pn) -> PE (X.comp scope N C s₀ H₀ ex pn) elt te)
   (hs : ∀ x, foldedSetIterable iter X.env x = pure x := by intro _; rfl) : PE X (.ListComp elt [⟨target, iter, [], 0⟩] scope pos) (U0a N.length wi g te) := by
 intro pins s σ H Q I h
 refine wpAny_ListComp S.free S.kind S.loc (C7y S hd hi hex hg he I h (RR := fun acc ce r s' => ∃ m, s'.heap.Ns ce.locals m /\ ∀ h', Heap.SameBut ce.locals s'.heap h' -> match r with
   | .ok _ => EP X pins σ Q acc { s' with heap := h' }
   | .error x => wpAny (model X.prog X.w) X.A (passOn "comprehension.variables-let-go" x ce) (EP X pins σ Q) X.xe { s' with heap := h' }) ?_) hs
 intro D C s6 H5 mm I6 n6 f6 q
 exact ⟨mm, n6, fun h' sb => ⟨.ref D, H5, V3b I6 f6 sb, rfl, q⟩⟩
theorem Y4h {i : Nat} {y : Str} {py spos : Pos} {elt target iter : Expr} {scope : Scope} {pos : Pos} {N : List Str} {wi : TI} {g : TG} {te : TE} (S : B5x N scope) (hd : A1b X) (hi : PIH X target iter wi) (hex : X.ex = [])
   (hg : ∀ C s₀ H₀ ex pn, A1b (X.comp scope N C s₀ H₀ ex pn) -> PG (X.comp scope N C s₀ H₀ ex pn) target g)
   (he : ∀ C s₀ H₀ ex pn, A1b (X.comp scope N C s₀ H₀ ex pn) -> PE (X.comp scope N C s₀ H₀ ex pn) elt te) (hN : X.N.Nodup) (hi' : X.N[i]? = some y) (hy : X.env.scope.names.lookup y = some .local)
   (hsw : swapsWith (.ListComp elt [⟨target, iter, [], 0⟩] scope pos) (some (.Name y py)) spos.line X.env = pure true := by rfl)
   (hs : ∀ x, foldedSetIterable iter X.env x = pure x := by intro _; rfl) : PS X (.Assign [.Name y py] (.ListComp elt [⟨target, iter, [], 0⟩] scope pos) spos) (tAsg (U0a N.length wi g te) (V3x i)) := by
 intro pins s σ H D I h
 rw [exec_Assign_Name_used _ _ _ _ hsw]
 refine wpAny_bind (wpAny_standAt (wpAny_bind ?_))
 show wpAny _ X.A (do let _ <- comprehension (.ListComp elt [⟨target, iter, [], 0⟩] scope pos) scope X.env _ (newList []) false (eval iter X.env) (some (assign (.Name y py) X.env))) _ _ s
 refine wpAny_bind (wpAny_mono (wpAny_comprehension_use (Q := fun _ s' => SP X pins D .next s') rfl hs S.free S.kind S.loc (C7y S hd hi hex hg he I h (RR := fun acc ce r s' => match r with
     | .ok _ => wpAny (model X.prog X.w) X.A (assign (.Name y py) X.env acc) (fun _ s'' => ∃ m, s''.heap.Ns ce.locals m /\ ∀ h', Heap.SameBut ce.locals s''.heap h' -> SP X pins D .next { s'' with heap := h' }) X.xe s'
     | .error x => ∃ m, s'.heap.Ns ce.locals m /\ ∀ h', Heap.SameBut ce.locals s'.heap h' -> wpAny (model X.prog X.w) X.A (passOn "comprehension.variables-let-go" x ce) (fun _ s' => SP X pins D .next s') X.xe { s' with heap := h' }) ?_))
   (fun _ s' hq => wpAny_pure (wpAny_pure hq)) fun _ _ e => e)
 intro D' C s6 H5 mm I6 n6 f6 q
 refine wpAny_assign_Name (D9e (v := .ref D') I6 hN hi' (.inl hy) rfl (fun s7 I7 st => ?_) (.inr hy))
 obtain ⟨a, sb, ha⟩ := st
 have na : C ≠ a := by
   rcases ha with rfl | ha
   . exact f6.2.1
   . exact (f6.2.2.2.2.1 y a ha).symm
 exact ⟨mm, n6.sameBut sb na, fun h' sb' => ⟨_, _, V3b I7 f6 sb', q⟩⟩
end
section
variable {X : Cx} {a b c : Expr} {ta tb tc : TE} {pos : Pos}
theorem G5 : OpR X (binaryOp .Mult) (rI IntMulOk fun i j => .int (i * j)) := opI fun _ _ _ _ _ _ _ hc q => mul_int q hc
theorem D8 : OpR X (binaryOp .FloorDiv) (rI (fun _ j => 0 < j /\ j.natAbs.log2 < 9000) fun i j => .int (i / j)) := opI fun i j _ _ _ _ _ hc q => by
 have h1 : (0 : Int) < j := hc.1
 exact floordiv_int (by omega) (by rw [Int.fdiv_eq_ediv_of_nonneg i (by omega)]; exact q) (.inl (PyProof.noPylong_of_log2 hc.2))
theorem A0s {i : Int} {k : Nat} (h : i.natAbs < 2 ^ k) (hk : 0 < k) : i.natAbs.log2 < k := by
 by_cases z : i.natAbs = 0
 . rw [z]; simpa using hk
 exact (Nat.log2_lt z).mpr h
theorem C8w {i : Int} (h : i.natAbs < 2 ^ 1000) : Builtin.Int.intBits i <= 2 ^ 20 := by
 unfold Builtin.Int.intBits
 split
 . exact Nat.zero_le _
 have := A0s h (by decide)
 have e : (2 : Nat) ^ 20 = 1048576 := by decide
 omega
theorem Y9 {i j : Int} (h : i.natAbs < 2 ^ 1000) (h' : j.natAbs < 2 ^ 1000) : IntMulOk i j := IntMulOk.of_bits (C8w h) (C8w h')
inductive TyE (K : Frag) (H : Hp) : V -> Value -> Prop where
 | of {x : V} {t : Value} (h : C1y K H x t) : TyE K H x t
 | exc {a C t : Addr} {T : Value} {u : HO} (e : H a = some (.frz (A3g (.ref C) t none T) u)) (k : ExcK K C) : TyE K H (.ref a) (.ref C)
 | excD {a C t : Addr} {T : Value} {d : Addr} {u : HO} {fs : List (Str × V)} (e : H a = some (.frz (A3g (.ref C) t (some d) T) u)) (hd : H d = some (.xd fs)) (k : ExcK K C) : TyE K H (.ref a) (.ref C)
 | tupK {a : Addr} {o : Obj} (l : K.lookup a = some o) (c : o.cls = .type "tuple") : TyE K H (.ref a) (.type "tuple")
theorem U0g {pins : List (Addr × Obj)} {σ : St} {H : Hp} {s : Shared} {A : Around} {E : Value -> Shared -> Prop} {Q : Value -> Shared -> Prop} {c : Value} {b : Bool} {x : V} {u t : Value} (I : Inv X pins σ H s) (rx : V0 x u) (ty : TyE X.K H x t)
   (e : kitOne X.K t c = some b) (h : ∀ tk, Q (.bool b) { s with toks := tk }) : wpAny (model X.prog X.w) A (call (.builtin "isinstance") [u, c]) Q E s := by
 cases ty with
 | of h' => exact V7v I rx h' e h
 | exc ea k =>
   cases rx
   rename_i a C t0 T u0
   have o1 : s.heap.get? a = some (A3g (.ref C) t0 none T) := (I.hok a _ ea).1
   refine kia_one (H := fun h => PySem.W.InstAt h a (A3g (.ref C) t0 none T) C none) ?_ I.kIn ⟨o1, rfl, rfl, trivial⟩ e (fun z => nomatch z) h
   refine ⟨fun M h _ J => J.type, fun M h K _ => B9z K k.cl, fun h tp dd its n sl K htp => ?_, fun K J q => B1g k K J q⟩
   refine Bool.eq_false_iff.mpr fun q => ?_
   have e : C = tp := Value.ref.inj (beq_iff_eq.mp q)
   subst e
   have z := k.cl
   unfold clsIn at z
   split at z
   . rename_i ho
     have y := (K _ _ ho).symm.trans htp
     cases y
   . cases z
 | tupK l c =>
   cases rx
   exact PySem.W.kia_one PySem.W.kitx_tuple I.kIn ⟨_, I.kIn _ _ l, c⟩ e (fun z => nomatch z) h
 | excD ea hd k =>
   cases rx
   rename_i a C t0 T d u0 fs
   have o1 : s.heap.get? a = some (A3g (.ref C) t0 (some d) T) := (I.hok a _ ea).1
   obtain ⟨mA, nA, _⟩ := (show ∃ mA, s.heap.Ns1 d mA /\ ∀ f, C7g (fs.lookup f) (mA f) from I.hok d _ hd)
   obtain ⟨od, o2, _⟩ := D9y nA
   refine kia_one (H := fun h => PySem.W.InstAt h a (A3g (.ref C) t0 (some d) T) C (some od)) ?_ I.kIn ⟨o1, rfl, rfl, o2⟩ e (fun z => nomatch z) h
   refine ⟨fun M h _ J => J.type, fun M h K _ => B9z K k.cl, fun h tp dd its n sl K htp => ?_, fun K J q => B1g k K J q⟩
   refine Bool.eq_false_iff.mpr fun q => ?_
   have e : C = tp := Value.ref.inj (beq_iff_eq.mp q)
   subst e
   have z := k.cl
   unfold clsIn at z
   split at z
   . rename_i ho
     have y := (K _ _ ho).symm.trans htp
     cases y
   . cases z
def clsV : V -> Option Value
 | .ty n => some (.type n)
 | .ref a => some (.ref a)
 | _ => none
theorem J4g : A6z X (.builtin "isinstance") (fun xs H Q => ∃ x c cv t b, xs = [x, c] /\ clsV c = some cv /\ TyE X.K H x t /\ kitOne X.K t cv = some b /\ Q (.bl b) H) := by
 intro pins s σ H xs us Q I r h
 obtain ⟨x, c, cv, t, b, rfl, hc, ty, e, q⟩ := h
 obtain ⟨u, v, rfl, ru, rv⟩ := U2.two r
 have : v = cv := by
   cases c <;> simp only [clsV] at hc <;> first | (cases hc; exact rv) | cases hc
 subst this
 exact U0g I ru ty e fun tk => ⟨.bl b, H, I.tok tk, rfl, q⟩
mutual
inductive RdD (K : Frag) (H : Hp) : V -> PyData -> Prop where
 | non : RdD K H .non .none
 | bl (b : Bool) : RdD K H (.bl b) (.bool b)
 | int (i : Int) : RdD K H (.int i) (.int i)
 | str (x : Str) : RdD K H (.str x) (.str x)
 | tup {a : Addr} {xs : List V} {ds : List PyData} (h : SqT K H a xs) (r : D0g K H xs ds) : RdD K H (.ref a) (.tuple ds)
 | lst {a : Addr} {xs : List V} {ds : List PyData} (h : SqL K H a xs) (r : D0g K H xs ds) : RdD K H (.ref a) (.list ds)
inductive D0g (K : Frag) (H : Hp) : List V -> List PyData -> Prop where
 | nil : D0g K H [] []
 | cons {x : V} {xs : List V} {d : PyData} {ds : List PyData} (h : RdD K H x d) (r : D0g K H xs ds) : D0g K H (x :: xs) (d :: ds)
end
mutual
theorem RdD.reads {pins : List (Addr × Obj)} {σ : St} {H : Hp} {s : Shared} (I : Inv X pins σ H s) : ∀ {x : V} {d : PyData} {u : Value}, RdD X.K H x d -> V0 x u -> ∃ as, Reads s.heap u d as
 | _, _, _, .non, r => by cases r; exact ⟨_, .none⟩
 | _, _, _, .bl b, r => by cases r; exact ⟨_, .bool b⟩
 | _, _, _, .int i, r => by obtain ⟨t, rfl⟩ := r; exact ⟨_, .int i t⟩
 | _, _, _, .str x, r => by obtain ⟨t, rfl⟩ := r; exact ⟨_, .str x t⟩
 | _, _, _, .tup h q, r => by
   cases r
   obtain ⟨its, rv, ⟨o, e, c, n, d⟩, _⟩ := I.tuple h
   obtain ⟨as, z⟩ := D0g.reads I q rv
   exact ⟨_, reads_tuple_at e c d (by simpa using z)⟩
 | _, _, _, .lst h q, r => by
   cases r
   obtain ⟨its, rv, p, _⟩ := I.list h
   obtain ⟨o, e, c, n, d⟩ := p.isList
   obtain ⟨as, z⟩ := D0g.reads I q rv
   exact ⟨_, reads_list_at e c d (by simpa using z)⟩
theorem D0g.reads {pins : List (Addr × Obj)} {σ : St} {H : Hp} {s : Shared} (I : Inv X pins σ H s) : ∀ {xs : List V} {ds : List PyData} {us : List Value}, D0g X.K H xs ds -> U2 xs us -> ∃ as, ReadsAll s.heap us ds as
 | _, _, _, .nil, r => by cases r; exact ⟨_, .nil⟩
 | _, _, _, .cons h q, r => by
   cases r with
   | cons r1 r2 =>
     obtain ⟨as, z⟩ := RdD.reads I h r1
     obtain ⟨bs, y⟩ := D0g.reads I q r2
     exact ⟨_, .cons z y⟩
end
def rEqD (K : Frag) (n : Bool) : R2 := fun x y H Q => ∃ d e, RdD K H x d /\ RdD K H y e /\ SeqAt.shaped d = true /\ SeqAt.shaped e = true /\ Q (.bl (if n then !PyData.eqv d e else PyData.eqv d e)) H
theorem A0sk (hu : X.A.units + 64 < cLine) : OpR X (compareOp .Eq) (rEqD X.K false) := by
 intro pins s σ H x y v u Q I rx ry q
 obtain ⟨d, e, hx, hy, sd, se, q⟩ := q
 obtain ⟨as, z⟩ := hx.reads I rx
 obtain ⟨bs, z'⟩ := hy.reads I ry
 exact eq_dataH z z' sd se hu ⟨.bl (PyData.eqv d e), H, I, rfl, q⟩
theorem Y7s (hu : X.A.units + 64 < cLine) : OpR X (compareOp .NotEq) (rEqD X.K true) := by
 intro pins s σ H x y v u Q I rx ry q
 obtain ⟨d, e, hx, hy, sd, se, q⟩ := q
 obtain ⟨as, z⟩ := hx.reads I rx
 obtain ⟨bs, z'⟩ := hy.reads I ry
 exact ne_dataH z z' sd se hu ⟨.bl (!PyData.eqv d e), H, I, rfl, q⟩
theorem Y8a (hc : X.A.handled = none) : A6z X (.builtin "any") (fun xs H Q => ∃ (l : Addr) (bs : List Bool), xs = [.ref l] /\ SqL X.K H l (bs.map V.bl) /\ Q (.bl (bs.any id)) H) := by
 intro pins s σ H xs us Q I r h
 obtain ⟨l, bs, rfl, hl, q⟩ := h
 obtain ⟨u, rfl, ru⟩ := U2.one r
 cases ru
 obtain ⟨its, rv, p, hz⟩ := I.list hl
 obtain ⟨o, e, _⟩ := id p.isList
 have hlt : l < s.heap.objs.size := Heap.lt_size e
 have hlen : its.length = bs.length := by rw [<- rv.length, List.length_map]
 refine call_any_walk (wpAny_pyIter_list p.isList ?_)
 refine ⟨s.heap.objs.size, [s.heap.objs.size, l], [s.heap.objs.size], its.toArray.size, _, _, fun i => (bs[i]?).getD false, rfl, Walks.list (A := X.A.in1) hc _ l (Nat.ne_of_lt hlt) its.toArray, ⟨⟨_, Heap.get?_push_size _ rfl, rfl, rfl⟩, p.isList.push _⟩, fun i v s' Q' E' hP hQ => ?_, fun h' tk hk => ?_⟩
 . have hP : its[i]? = some v := by simpa using hP
   have hi : i < bs.length := by rw [<- hlen]; exact (List.getElem?_eq_some_iff.mp hP).1
   obtain ⟨u', hu', ru'⟩ := rv.get (i := i) (x := V.bl bs[i]) (by simp [hi])
   rw [hP] at hu'
   cases hu'
   cases ru'
   have z : (bs[i]?).getD false = bs[i] := by simp [hi]
   dsimp only at hQ
   rw [z] at hQ
   exact wpAny_truthy_bool hQ
 have z : ((List.range its.toArray.size).any fun i => (bs[i]?).getD false) = bs.any id := by
   rw [List.size_toArray, hlen]
   exact LSm.range_any bs
 rw [z]
 exact ⟨.bl (bs.any id), H, I.kept fun b x e => hk b x (fun hm => by rw [List.mem_singleton.mp hm] at e; exact Nat.lt_irrefl _ (Heap.lt_size e)) (Heap.get?_push_of_some _ e), rfl, q⟩
inductive J5m (X : Cx) : Expr -> TE -> Prop where
 | lit {x : Str} {j : Nat} {pos : Pos} : J5m X (.Constant (.str x) j pos) (tC (.str x))
 | int {v : Expr} {tv : TE} {pos : Pos} (h : PE X v tv) : J5m X (.FormattedValue v (-1) none pos) (fun σ H Q => tv σ H fun y H1 => ∃ i, y = .int i /\ i.natAbs.log2 < 1920 /\ Q (.str (toString i)) H1)
theorem J5m.pe {e : Expr} {t : TE} (h : J5m X e t) : PE X e t := by
 cases h with
 | lit => exact D5
 | int h =>
   intro pins s σ H Q I q
   refine FormattedValue_plain (thn (h pins s σ H _ I q) fun u s1 ⟨y, H1, I1, r, i, e, l, q⟩ => ?_)
   subst e
   obtain ⟨t, rfl⟩ := r
   exact formatField_int_small l ⟨.str (toString i), H1, I1.tok _, ⟨_, rfl⟩, q⟩
inductive C1x (X : Cx) : List Expr -> (Str -> TE) -> Prop where
 | nil : C1x X [] (fun out _ H Q => out.length <= sizeLine /\ Q (.str out) H)
 | cons {e : Expr} {es : List Expr} {t : TE} {r : Str -> TE} (h : J5m X e t) (hr : C1x X es r) : C1x X (e :: es) (fun out σ H Q => t σ H fun x H1 => ∃ y, x = .str y /\ (out ++ y).length <= sizeLine /\ r (out ++ y) σ H1 Q)
theorem C1x.run {es : List Expr} {t : Str -> TE} (h : C1x X es t) : ∀ (out : Str) (pins : List (Addr × Obj)) (s : Shared) (σ : St) (H : Hp) (Q : VK), Inv X pins σ H s -> t out σ H Q ->
   wpAny (model X.prog X.w) X.A (joinParts out (evalEach es X.env)) (EP X pins σ Q) X.xe s := by
 induction h with
 | nil =>
   intro out pins s σ H Q I q
   exact joinParts_nil ⟨.str out, H, I.tok _, ⟨_, rfl⟩, q.2⟩ q.1
 | @cons e es t r h hr ih =>
   intro out pins s σ H Q I q
   show wpAny _ _ (joinParts out (eval e X.env :: evalEach es X.env)) _ _ _
   refine joinParts_cons (thn (h.pe pins s σ H _ I q) fun u s1 ⟨x, H1, I1, rx, y, ey, z, q⟩ => ?_)
   subst ey
   obtain ⟨t', rfl⟩ := rx
   exact ⟨z, ih _ pins s1 σ H1 Q I1 q⟩
theorem G1c {e1 e2 : Expr} {es : List Expr} {t : Str -> TE} {pos : Pos} (h : C1x X (e1 :: e2 :: es) t) : PE X (.JoinedStr (e1 :: e2 :: es) pos) (t Str.empty) := by
 intro pins s σ H Q I q
 exact JoinedStr_many (h.run _ pins s σ H Q I q)
end
section
variable {P : Program} {w : World} {K : Frag} {mg : Str -> Option Value} {base : Heap}
end
section
variable {X : Cx} {k : Nat} {f : Addr} {fd : FuncData} {ps : List Str} {sp : Sp} {x : Str} {p pos : Pos} {e : Expr} {es : List Expr} {t : TA}
end
abbrev EKF : EK := fun _ _ _ _ => False
theorem Y1 {X : Cx} : U1 X EKF := fun _ _ _ _ _ _ _ _ _ _ h => h.elim
structure Def (K : Frag) (mg : Str -> Option Value) (x : Str) (ps : List Str) (st : Stmt) (f : Addr) (fd : FuncData) : Prop where
 F : Fun K x x st f fd
 g : mg x = some (.ref f)
 b : Binds K fd ps []
theorem G0 {K : Frag} {h : Heap} {mg : Str -> Option Value} {x : Str} {ps : List Str} {st : Stmt} {f : Addr} {oc : Value} {od an : Option Addr} {osl : Array (Option Value)} {kV doc pm cdv ct : Value} (X : K.In h) (G : h.Ns mainGlobals mg)
   (a : nsIn K mainGlobals x = some (some (.ref f))) (l : K.lookup f = some ⟨oc, od, .func (fnOf x x (B9 st) (B8 st) (A2 st) .none kV doc pm an cdv ct), osl⟩) (c : codeIn K cdv x = true) (k : keepIn K (.ref f) = true)
   (hb : ∀ (kV doc pm : Value) (an : Option Addr) (cdv ct : Value) (us : List Value), us.length = ps.length -> bindArgs (fnOf x x (B9 st) (B8 st) (A2 st) .none kV doc pm an cdv ct) ⟨us, []⟩ = pure (ps.zip us)) :
   Def K mg x ps st f (fnOf x x (B9 st) (B8 st) (A2 st) .none kV doc pm an cdv ct) :=
 ⟨U3 (st := st) l c k, mg_of X G a, (U3 (st := st) l c k).binds hb⟩
theorem U0 {c A B : Prop} [Decidable c] (h : ¬ c) (b : B) : if decide c = true then A else B := by rw [decide_eq_false h]; exact V3 b
theorem A0p {c A B : Prop} [Decidable c] (h : c) (a : A) : if decide c = true then A else B := by rw [decide_eq_true h]; exact Z5 a
theorem J1 {c A B : Prop} [Decidable c] (a : c -> A) (b : ¬ c -> B) : if decide c = true then A else B := by
 by_cases h : c
 . exact A0p h (a h)
 exact U0 h (b h)
def A0yb (t : TS) : TS := fun D σ H => ∃ J : St -> Hp -> Prop, t { D with nx := J } σ H /\ ∀ σ' H', J σ' H' -> D.nx σ' H'
theorem B5 {X : Cx} {st : Stmt} {t : TS} (h : PS X st t) : PS X st (A0yb t) := by
 intro pins s σ H D I q
 obtain ⟨J, q, k⟩ := q
 refine thn (h pins s σ H _ I q) fun f s' z => ?_
 cases f with
 | next => obtain ⟨σ', H', I', y⟩ := z; exact ⟨σ', H', I', k _ _ y⟩
 | brk => exact z
 | cont => exact z
 | ret u => exact z
theorem C8.upd {H : Hp} {p : Addr} {o : HO} (h : H p = none) : C8 H (L2.upd H p o) := fun b u e => by rw [G6 (G7 e h)]; exact e
theorem D7 {n : Nat} (h : n <= 1000) : n <= sizeLine := Nat.le_of_lt (A0y h)
section
variable {X : Cx} {k j : Nat} {f : Addr} {fd : FuncData} {ps : List Str} {sp : Sp} {EH : EK} {x : Str} {st : Stmt} {p pos : Pos} {e : Expr} {es : List Expr} {t : TA}
theorem C9 (D : Def X.K X.mg x ps st f fd) (F : A8 X.prog X.w X.K X.mg X.base (CX1 X.prog X.w) j f fd ps sp) (hr : A0m k X.A) (hx : U1 X EH) (ha : PA X (e :: es) t) (hj : j <= k := by decide) (hg : Gl X x := by rfl) (hex : X.ex = [] := by rfl) (hdb : (x == ("__debug__" : Str)) = false := by decide)
   (he : starEach (e :: es) X.env = (false, eval e X.env) :: starEach es X.env := by rfl) (hpl : (backTo pos (starEach es X.env)).any (·.1) = false := by rfl) : PE X (.Call (.Name x p) (e :: es) [] pos) (C9c sp [] EH t) :=
 Y6b (F.mono hj) hr hg D.g D.F.kp D.b .nil hx ha hex hdb he hpl
theorem A3f (D : Def X.K X.mg x ps st f fd) (F : A8 X.prog X.w X.K X.mg X.base (CX1 X.prog X.w) j f fd ps sp) (hr : A0m k X.A) (hx : U1 X EH) (hj : j <= k := by decide) (hg : Gl X x := by rfl) (hex : X.ex = [] := by rfl) (hdb : (x == ("__debug__" : Str)) = false := by decide) :
   PE X (.Call (.Name x p) [] [] pos) (C9c sp [] EH Y6n) :=
 V7p (F.mono hj) hr hg D.g D.F.kp D.b .nil hx hex hdb
theorem pty {n : Str} {T : String} (hm : X.mg n = none) (hv : bootBuiltins n = some (.type T)) (hg : Gl X n := by rfl) (hn : n ≠ "__name__" := by decide) (hdb : (n == ("__debug__" : Str)) = false := by decide) : PE X (.Name n pos) (tC (.ty T)) := A0ha hg hm hv rfl hn hdb
theorem pcls {n : Str} {C : Addr} (hm : X.mg n = some (.ref C)) (hg : Gl X n := by rfl) (hdb : (n == ("__debug__" : Str)) = false := by decide) : PE X (.Name n pos) (tC (.ref C)) := A0jb hg hm rfl hdb
theorem V5w {a b : Expr} {ta tb : TE} (hm : X.mg "isinstance" = none) (ha : PE X a ta) (hb : PE X b tb) (hg : Gl X "isinstance" := by rfl)
   (h1 : starEach [a, b] X.env = (false, eval a X.env) :: starEach [b] X.env := by rfl) (h2 : starEach [b] X.env = (false, eval b X.env) :: starEach [] X.env := by rfl) (h3 : (backTo pos (starEach [b] X.env)).any (·.1) = false := by rfl) :
   PE X (.Call (.Name "isinstance" p) [a, b] [] pos) (tCB (fun xs H Q => ∃ x c cv t b, xs = [x, c] /\ clsV c = some cv /\ TyE X.K H x t /\ kitOne X.K t cv = some b /\ Q (.bl b) H) (Y4b ta (Y4b tb Y6n))) :=
 J3 J4g hg hm boot_isinstance (A0 ha (A0 hb A5 h2) h1) (he := h1) (hpl := h3)
end
section
variable {X : Cx} {k j : Nat} {f : Addr} {fd : FuncData} {ps : List Str} {sp : Sp} {x : Str} {st : Stmt} {p pos : Pos} {e : Expr} {es : List Expr} {t : TA}
end
structure Mk0 (K : Frag) (C : Addr) : Prop where
 makes : makesIn K C = true
 init : findIn K (.ref C) "__init__" = some (some (.builtin "object.__init__"))
 kp : keepIn K (.ref C) = true
section
variable {X : Cx} {k j : Nat} {f C : Addr} {fd : FuncData} {ps : List Str} {sp : Sp} {dvs : List V} {ds : List Value} {EH : EK} {x m : Str} {p pos apos : Pos} {e o : Expr} {es : List Expr} {ta : TE} {t : TA}
def tNew (C : Addr) : TE := fun _ H Q => ∀ x dx, H x = none -> H dx = none -> dx ≠ x -> Q (.ref x) (upd (upd H dx (.own x)) x (.ins C dx []))
theorem A0je {pins : List (Addr × Obj)} {σ : St} {H : Hp} {s : Shared} {Q : VK} (M : Mk0 X.K C) (I : Inv X pins σ H s) (h : tNew C σ H Q) : wpAny (model X.prog X.w) X.A (call (.ref C) []) (EP X pins σ Q) X.xe s := by
 have hq := h (s.heap.objs.size + 1) s.heap.objs.size (I.hok.fresh (Nat.le_succ _)) (I.hok.fresh (Nat.le_refl _)) (Nat.ne_of_lt (Nat.lt_succ_self _))
 have I2 := Inv.made (C := C) I
 have Y := makes_of (M := model X.prog X.w) I.kIn M.makes
 refine wpAny_call (V6a I.kIn M.makes M.init (fun self => Looks.of_pure (oi_bind self)) ?_)
 have e2 : ((s.heap.push emptyDict).push (instObj C s.heap.objs.size)).get? (s.heap.objs.size + 1) = some (instObj C s.heap.objs.size) := by
   have := Heap.get?_push_size (s.heap.push emptyDict) (o := instObj C s.heap.objs.size) rfl
   rwa [Heap.size_push] at this
 have t1 : Looks (model X.prog X.w) ((s.heap.push emptyDict).push (instObj C s.heap.objs.size)) (typeOf (.ref (s.heap.objs.size + 1))) (.ref C) := (Looks.ld e2).andThen .now
 have t2 : Looks (model X.prog X.w) ((s.heap.push emptyDict).push (instObj C s.heap.objs.size)) (isInstance (.ref (s.heap.objs.size + 1)) (.type "object")) true := t1.andThen (Y.top.keeps fun b o e => Heap.get?_push_of_some _ (Heap.get?_push_of_some _ e))
 refine codeAny_call_builtin oi_plain entry_oi (@check_slot (model X.prog X.w) _ _ _ "object.__init__" "object" "__init__" (.ref (s.heap.objs.size + 1)) [] [] _ oi_kind oi_split t2 (oi_args (.ref (s.heap.objs.size + 1))) ?_)
 rw [oi_run]
 exact wpAny_pure (And.intro rfl ⟨V.ref (s.heap.objs.size + 1), _, I2, rfl, hq⟩)
theorem B1v (M : Mk0 X.K C) (hg : Gl X x) (hm : X.mg x = some (.ref C)) (hdb : (x == ("__debug__" : Str)) = false := by decide) : PE X (.Call (.Name x p) [] [] pos) (tNew C) := by
 intro pins s σ H Q I h
 refine wpAny_Call_Name_kw (A3n I hg hm ?_ hdb)
 exact callWith_K0 I.kIn M.kp (A0je M I h)
def Y5u (C : Addr) (m : Str) (sp : Sp) (dvs : List V) (EH : EK) (ta : TE) (t : TA) : TE := fun σ H Q => ta σ H fun x H1 => ∃ a dx fs, x = .ref a /\ H1 a = some (.ins C dx fs) /\ fs.lookup m = none /\
 t σ H1 fun vs H2 => sp (x :: (vs ++ dvs)) H2 Q (fun C d H' => EH C d σ H')
theorem C6j {pl : Sem Bool} (he : PE X o ta) (c : Cls X.K C) (hm : Y5 X.K C m f) (F : A8 X.prog X.w X.K X.mg X.base (CX1 X.prog X.w) j f fd ps sp) (hr : A0m k X.A) (hb : Binds X.K fd ps ds) (hd : U2 dvs ds) (hx : U1 X EH) (ha : PA X (e :: es) t)
   (hj : j <= k := by decide) (hex : X.ex = [] := by rfl)
   (hst : starEach (e :: es) X.env = (false, eval e X.env) :: starEach es X.env := by rfl) (hpl : (backTo pos (starEach es X.env)).any (·.1) = false := by rfl)
   (ht : eval (.Call (.Attribute o m apos) (e :: es) [] pos) X.env = (do
     let ov <- eval o X.env
     standAt apos.atName
     let (f, first) <- holding [ov] (getMethod ov m pl)
     callWith pos f first (backTo pos (starEach (e :: es) X.env)) (backToKw pos (keywordEach [] X.env))) := by rfl) :
   PE X (.Call (.Attribute o m apos) (e :: es) [] pos) (Y5u C m sp dvs EH ta t) := by
 intro pins s σ H Q I h
 refine methodCall_KW (pl := pl) (thn (he pins s σ H _ I h) fun u s1 ⟨x, H1, I1, rx, a, dx, fs, ex, ea, l, q⟩ => ?_) ht
 subst ex
 obtain rfl : u = Value.ref a := rx
 refine C9g I1 ea c hm l ?_
 refine callWith_K (first := [.ref a]) (h₀ := X.base) I.ok.mod.kin hm.kp (thn (ha pos pins s1 σ H1 _ I1 q) fun us s2 ⟨vs, H2, I2, r, q2⟩ => ⟨I2.kIn, ?_⟩) hst hpl
 exact C7h (us := .ref a :: us) (vs := .ref a :: vs) (F.mono hj) hr hb hd hx hex I2 (.cons rfl r) q2
theorem A6d {pl : Sem Bool} (he : PE X o ta) (c : Cls X.K C) (hm : Y5 X.K C m f) (F : A8 X.prog X.w X.K X.mg X.base (CX1 X.prog X.w) j f fd ps sp) (hr : A0m k X.A) (hb : Binds X.K fd ps ds) (hd : U2 dvs ds) (hx : U1 X EH)
   (hj : j <= k := by decide) (hex : X.ex = [] := by rfl)
   (ht : eval (.Call (.Attribute o m apos) [] [] pos) X.env = (do
     let ov <- eval o X.env
     standAt apos.atName
     let (f, first) <- holding [ov] (getMethod ov m pl)
     callWith pos f first (backTo pos (starEach [] X.env)) (backToKw pos (keywordEach [] X.env))) := by rfl) :
   PE X (.Call (.Attribute o m apos) [] [] pos) (Y5u C m sp dvs EH ta Y6n) := by
 intro pins s σ H Q I h
 refine methodCall_KW (pl := pl) (thn (he pins s σ H _ I h) fun u s1 ⟨x, H1, I1, rx, a, dx, fs, ex, ea, l, q⟩ => ?_) ht
 subst ex
 obtain rfl : u = Value.ref a := rx
 refine C9g I1 ea c hm l ?_
 exact callWith_K0 (first := [.ref a]) I1.kIn hm.kp (C7h (us := [.ref a]) (vs := [.ref a]) (F.mono hj) hr hb hd hx hex I1 (.cons rfl .nil) q)
def A0rz (C : Addr) (sp : Sp) (dvs : List V) (EH : EK) (t : TA) : TE := fun σ H Q => t σ H fun vs H1 => ∀ x dx, H1 x = none -> H1 dx = none -> dx ≠ x ->
 sp (.ref x :: (vs ++ dvs)) (upd (upd H1 dx (.own x)) x (.ins C dx [])) (fun v H2 => v = .non /\ Q (.ref x) H2) (fun C d H' => EH C d σ H')
theorem V7s {pins : List (Addr × Obj)} {σ : St} {H : Hp} {s : Shared} {Q : VK} {us : List Value} {vs : List V} (M : Mk X.K C f) (F : A8 X.prog X.w X.K X.mg X.base (CX1 X.prog X.w) k f fd ps sp) (hr : A0m (k + 1) X.A) (hb : Binds X.K fd ps ds) (hd : U2 dvs ds)
   (hx : U1 X EH) (hex : X.ex = []) (I : Inv X pins σ H s) (r : U2 vs us)
   (h : ∀ x dx, H x = none -> H dx = none -> dx ≠ x -> sp (.ref x :: (vs ++ dvs)) (upd (upd H dx (.own x)) x (.ins C dx [])) (fun v H2 => v = .non /\ Q (.ref x) H2) (fun C d H' => EH C d σ H')) :
   wpAny (model X.prog X.w) X.A (call (.ref C) us) (EP X pins σ Q) X.xe s := by
 have hq := h (s.heap.objs.size + 1) s.heap.objs.size (I.hok.fresh (Nat.le_succ _)) (I.hok.fresh (Nat.le_refl _)) (Nat.ne_of_lt (Nat.lt_succ_self _))
 have I2 := Inv.made (C := C) I
 have r2 : U2 (V.ref (s.heap.objs.size + 1) :: (vs ++ dvs)) (Value.ref (s.heap.objs.size + 1) :: (us ++ ds)) := .cons rfl (r.append hd)
 have hl : (Value.ref (s.heap.objs.size + 1) :: us ++ ds).length = ps.length := by
   have e := r2.length
   rw [F.len _ _ _ _ hq] at e
   exact e.symm
 refine wpAny_call (J5f (f := f) I.kIn M.makes M.init (beq_iff_eq.mp M.fn) (codeAny_mono (F.run _ X.stack _ _ ⟨Value.ref (s.heap.objs.size + 1) :: us, []⟩ (Value.ref (s.heap.objs.size + 1) :: (us ++ ds)) _ _ _ (hr.make C us [])
   (I2.env0.make C us []) (hb _ (Value.ref (s.heap.objs.size + 1) :: us) I2.kIn hl) r2 hq) fun r s' hq' => ?_))
 cases r with
 | error e => exact came hx hex I2 hq'
 | ok fl =>
   cases fl with
   | ret u =>
     obtain ⟨v, H', I3, rv, ev, q3⟩ := I2.after hq'
     subst ev
     exact ⟨rv, ⟨V.ref (s.heap.objs.size + 1), H', I3, rfl, q3⟩⟩
   | next => exact False.elim hq'
   | brk => exact False.elim hq'
   | cont => exact False.elim hq'
theorem A6x (M : Mk X.K C f) (F : A8 X.prog X.w X.K X.mg X.base (CX1 X.prog X.w) j f fd ps sp) (hr : A0m k X.A) (hm : X.mg x = some (.ref C)) (hb : Binds X.K fd ps ds) (hd : U2 dvs ds) (hx : U1 X EH)
   (ha : PA X (e :: es) t) (hj : j + 1 <= k := by decide) (hg : Gl X x := by rfl) (hex : X.ex = [] := by rfl) (hdb : (x == ("__debug__" : Str)) = false := by decide) (he : starEach (e :: es) X.env = (false, eval e X.env) :: starEach es X.env := by rfl) (hpl : (backTo pos (starEach es X.env)).any (·.1) = false := by rfl) :
   PE X (.Call (.Name x p) (e :: es) [] pos) (A0rz C sp dvs EH t) := by
 intro pins s σ H Q I h
 refine wpAny_Call_Name_kw (A3n I hg hm ?_ hdb)
 refine callWith_K (h₀ := X.base) I.ok.mod.kin M.kp (thn (ha pos pins s σ H _ I h) fun us s1 ⟨vs, H1, I1, r, q⟩ => ⟨I1.kIn, ?_⟩) he hpl
 exact V7s M F (hr.mono hj) hb hd hx hex I1 r q
end
section
variable {X : Cx}
end
structure V8a (K : Frag) (x qual : Str) (st : Stmt) (dV : Value) (f : Addr) (fd : FuncData) : Prop where
 ex : ∃ (oc : Value) (od : Option Addr) (kV doc pm : Value) (an : Option Addr) (cdv ct : Value) (osl : Array (Option Value)),
   fd = fnOf x qual (B9 st) (B8 st) (A2 st) dV kV doc pm an cdv ct /\ K.lookup f = some ⟨oc, od, .func fd, osl⟩ /\ codeIn K cdv qual = true
 kp : keepIn K (.ref f) = true
section
variable {P : Program} {w : World} {K : Frag} {mg : Str -> Option Value} {base : Heap}
theorem V8a.okE {x qual : Str} {st : Stmt} {dV : Value} {f : Addr} {fd : FuncData} {N ps : List Str} {k : Nat} {sp : Sp} (F : V8a K x qual st dV f fd) (S : C5 N ps (A2 st)) (len : ∀ vs H Q E, sp vs H Q E -> vs.length = ps.length)
   (hbody : ∀ (X : Cx) (cdv : Value) (A : Around) (outer : List Env) (s : Shared) (H : Hp) (vs : List V) (Q : VK) (E : XK), X = A1x (CX1 P w) P w K mg base N qual (A2 st) f cdv A outer s H E -> A0m k X.A -> U1 X (fun C dd _ H' => E C dd H') -> sp vs H Q E ->
     ∃ t, PSs (A1x (CX1 P w) P w K mg base N qual (A2 st) f cdv A outer s H E) (B8 st) t /\ t { nx := fun _ H' => Q .non H', rt := Q } (B6t N vs) H) : A8 P w K mg base (CX1 P w) (k + 1) f fd ps sp := by
 obtain ⟨oc, od, kV, doc, pm, an, cdv, ct, osl, rfl, lk, hc⟩ := F.ex
 exact Y7e lk hc S len fun A outer s H vs Q E hr h => hbody _ cdv A outer s H vs Q E rfl hr C9m h
theorem G1t {x qual : Str} {st : Stmt} {dV : Value} {f : Addr} {oc : Value} {od an : Option Addr} {osl : Array (Option Value)} {kV doc pm cdv ct : Value} (l : K.lookup f = some ⟨oc, od, .func (fnOf x qual (B9 st) (B8 st) (A2 st) dV kV doc pm an cdv ct), osl⟩)
   (c : codeIn K cdv qual = true) (k : keepIn K (.ref f) = true) : V8a K x qual st dV f (fnOf x qual (B9 st) (B8 st) (A2 st) dV kV doc pm an cdv ct) := ⟨⟨oc, od, kV, doc, pm, an, cdv, ct, osl, rfl, l, c⟩, k⟩
theorem C9p {fd : FuncData} {ps : List Str} {ds : List Value} {T : Addr} {o : Obj} {items : Array Value} {n : Nat} (hd : fd.defaults = .ref T) (ho : K.lookup T = some o) (hs : o.data = .seq items n)
   (h : ∀ us : List Value, (us ++ ds).length = ps.length -> ∃ k, bindArgs fd ⟨us, []⟩ = seqItems? fd.defaults >>= k /\ k (some items) = pure (ps.zip (us ++ ds))) : Binds K fd ps ds := fun s us X hl => by
 obtain ⟨k, h1, h2⟩ := h us hl
 exact binds_K X hd ho hs h1 h2
end
section
variable {X : Cx} {k j : Nat} {f C : Addr} {fd : FuncData} {ps ks : List Str} {sp : Sp} {EH : EK} {x m : Str} {p pos apos : Pos} {e o : Expr} {es : List Expr} {kws : List Keyword} {ta : TE} {t tk : TA} {g : List Value -> List Value -> List Value} {gV : List V -> List V -> List V}
end
section
variable {X : Cx} {K : Frag} {e : Expr} {f : Str} {pos : Pos} {ta : TE}
theorem B5r (h : X.K = K) : IxR X (rIxT K) := by subst h; exact G3
theorem A0jg (h : X.K = K) (he : PE X e ta) (hb : attributeBase e f X.env (eval e X.env) = eval e X.env) : PE X (.Attribute e f pos) (tFld K ta f) := by subst h; exact D6 he hb
theorem U1h (h : X.K = K) : OpR X (compareOp .In) (rIn K false) := by subst h; exact A4c
end
end L2
namespace TR
open PySem L2 PySem.W PyProof.Rows
structure Own (mg : Str -> Option Value) : Prop where
 isi : mg "isinstance" = none
 int_ : mg "int" = none
 bool_ : mg "bool" = none
 str_ : mg "str" = none
 list_ : mg "list" = none
 tuple_ : mg "tuple" = none
 dict_ : mg "dict" = none
 len_ : mg "len" = none
 range_ : mg "range" = none
 min_ : mg "min" = none
 max_ : mg "max" = none
 abs_ : mg "abs" = none
 any_ : mg "any" = none
 all_ : mg "all" = none
 sum_ : mg "sum" = none
 repr_ : mg "repr" = none
 enumerate_ : mg "enumerate" = none
 reversed_ : mg "reversed" = none
 zip_ : mg "zip" = none
 sorted_ : mg "sorted" = none
 divmod_ : mg "divmod" = none
 set_ : mg "set" = none
 ValueError_ : mg "ValueError" = none
structure Kit (K : Frag) : Prop where
 int_int : kitOne K (.type "int") (.type "int") = some true
 int_bool : kitOne K (.type "int") (.type "bool") = some false
 int_str : kitOne K (.type "int") (.type "str") = some false
 int_list : kitOne K (.type "int") (.type "list") = some false
 int_tuple : kitOne K (.type "int") (.type "tuple") = some false
 int_dict : kitOne K (.type "int") (.type "dict") = some false
 bool_int : kitOne K (.type "bool") (.type "int") = some true
 bool_bool : kitOne K (.type "bool") (.type "bool") = some true
 bool_str : kitOne K (.type "bool") (.type "str") = some false
 bool_list : kitOne K (.type "bool") (.type "list") = some false
 bool_tuple : kitOne K (.type "bool") (.type "tuple") = some false
 bool_dict : kitOne K (.type "bool") (.type "dict") = some false
 str_int : kitOne K (.type "str") (.type "int") = some false
 str_bool : kitOne K (.type "str") (.type "bool") = some false
 str_str : kitOne K (.type "str") (.type "str") = some true
 str_list : kitOne K (.type "str") (.type "list") = some false
 str_tuple : kitOne K (.type "str") (.type "tuple") = some false
 str_dict : kitOne K (.type "str") (.type "dict") = some false
 list_int : kitOne K (.type "list") (.type "int") = some false
 list_bool : kitOne K (.type "list") (.type "bool") = some false
 list_str : kitOne K (.type "list") (.type "str") = some false
 list_list : kitOne K (.type "list") (.type "list") = some true
 list_tuple : kitOne K (.type "list") (.type "tuple") = some false
 list_dict : kitOne K (.type "list") (.type "dict") = some false
 tuple_int : kitOne K (.type "tuple") (.type "int") = some false
 tuple_bool : kitOne K (.type "tuple") (.type "bool") = some false
 tuple_str : kitOne K (.type "tuple") (.type "str") = some false
 tuple_list : kitOne K (.type "tuple") (.type "list") = some false
 tuple_tuple : kitOne K (.type "tuple") (.type "tuple") = some true
 tuple_dict : kitOne K (.type "tuple") (.type "dict") = some false
 dict_int : kitOne K (.type "dict") (.type "int") = some false
 dict_bool : kitOne K (.type "dict") (.type "bool") = some false
 dict_str : kitOne K (.type "dict") (.type "str") = some false
 dict_list : kitOne K (.type "dict") (.type "list") = some false
 dict_tuple : kitOne K (.type "dict") (.type "tuple") = some false
 dict_dict : kitOne K (.type "dict") (.type "dict") = some true
 NoneType_int : kitOne K (.type "NoneType") (.type "int") = some false
 NoneType_bool : kitOne K (.type "NoneType") (.type "bool") = some false
 NoneType_str : kitOne K (.type "NoneType") (.type "str") = some false
 NoneType_list : kitOne K (.type "NoneType") (.type "list") = some false
 NoneType_tuple : kitOne K (.type "NoneType") (.type "tuple") = some false
 NoneType_dict : kitOne K (.type "NoneType") (.type "dict") = some false
theorem scK {N P : List Str} {sc : Scope} (a : sc.kind = .function := by rfl) (b : sc.isCoroutine = false := by rfl) (c : sc.isGenerator = false := by rfl) (d : N.Nodup := by decide +kernel) (e : N.take P.length = P := by rfl) (f : ∀ x ∈ P, sc.names.lookup x = some .local \/ sc.names.lookup x = some .cell := by decide +kernel) (g : ∀ y ∈ sc.names, y.2 ≠ .free := by decide +kernel) : C5 N P sc := ⟨a, b, c, d, e, f, g⟩
theorem A0qs {K : Frag} {H : Hp} (i : Int) : TyE K H (.int i) (.type "int") := .of (.int i)
theorem Y5r {K : Frag} {H : Hp} (z : Str) : TyE K H (.str z) (.type "str") := .of (.str z)
theorem A0qq {K : Frag} {H : Hp} {a : Addr} {xs : List V} (h : H a = some (.lst xs)) : TyE K H (.ref a) (.type "list") := .of (.lst h)
def B6v (lo hi : Int) (v : V) : Prop := ∃ i, v = .int i /\ lo <= i /\ i <= hi
def D5b (K : Frag) (H : Hp) (lo hi : Int) (v : V) : Prop := ∃ t b1 b2, TyE K H v t /\ kitOne K t (.type "int") = some b1 /\ kitOne K t (.type "bool") = some b2 /\ ((b1 && !b2) = false \/ ∃ i, v = .int i /\ (i < lo \/ hi < i))
section
variable {K : Frag} {H : Hp} {lo hi : Int}
end
def Exc (p : Addr) (H H' : Hp) : Prop := ∀ b o, H b = some o -> b ≠ p -> H' b = some o
theorem Exc.refl (p : Addr) (H : Hp) : Exc p H H := fun _ _ h _ => h
theorem Exc.trans {p : Addr} {H H1 H2 : Hp} (a : Exc p H H1) (b : Exc p H1 H2) : Exc p H H2 := fun c o h n => b c o (a c o h n) n
theorem Exc.upd {p : Addr} {H : Hp} {o : HO} : Exc p H (L2.upd H p o) := fun b u e n => by rw [G6 n]; exact e
theorem Exc.of {p : Addr} {H H' : Hp} (s : C8 H H') : Exc p H H' := fun b o h _ => s b o h
def Has (P : Program) (w : World) (K : Frag) (mg : Str -> Option Value) (base : Heap) (C : Addr) (m : Str) (k : Nat) (ps : List Str) (sp : Sp) : Prop := ∃ f fd, Y5 K C m f /\ A8 P w K mg base (CX1 P w) k f fd ps sp /\ Binds K fd ps []
def V6p (z : Str) (b : Bool) : List Str := if b then [z] else []
theorem len2 : ∀ {us : List Value}, us.length = 2 -> ∃ a b, us = [a, b]
 | [a, b], _ => ⟨a, b, rfl⟩
theorem len3 : ∀ {us : List Value}, us.length = 3 -> ∃ a b c, us = [a, b, c]
 | [a, b, c], _ => ⟨a, b, c, rfl⟩
theorem len4 : ∀ {us : List Value}, us.length = 4 -> ∃ a b c d, us = [a, b, c, d]
 | [a, b, c, d], _ => ⟨a, b, c, d, rfl⟩
theorem len5 : ∀ {us : List Value}, us.length = 5 -> ∃ a b c d e, us = [a, b, c, d, e]
 | [a, b, c, d, e], _ => ⟨a, b, c, d, e, rfl⟩
theorem U1g {us ds : List Value} {n : Nat} (h : (us ++ ds).length = n) : us.length = n - ds.length := by rw [List.length_append] at h; omega
end TR
namespace L2
open PySem PySem.Spec PyProof.Rows
section
variable {κ : Type} [DecidableEq κ]
end
section
variable {P : Program} {w : World} {H : Hp} {h : Heap} {a : Addr}
end
section
variable {X : Cx} {pins : List (Addr × Obj)} {σ : St} {H : Hp} {s : Shared} {a : Addr} {y v : V} {u r : Value} {o : Option V} {A : Around} {E : Value -> Shared -> Prop}
end
section
variable {X : Cx} {pins : List (Addr × Obj)} {σ : St} {H : Hp} {s : Shared} {a : Addr} {kvs : List (Key × V)} {k : Key} {u : Value} {A : Around} {E : Value -> Shared -> Prop}
end
section
variable {X : Cx} {o i e value : Expr} {pos pos' tpos : Pos} {td ty tv : TE}
end
section
variable {X : Cx} {pos : Pos}
end
end L2
namespace L2
open PySem PySem.Spec PyProof.Rows PySem.W
def A8c (F : List Str) (env : Env) : List (Str × Addr) := F.map fun x => (x, (env.cells.lookup x).getD 0)
def B7k (js : List Nat) (σ : St) : St := js.map fun j => (σ[j]?).getD none
abbrev Cx.compF (X : Cx) (scope : Scope) (N F : List Str) (C : Addr) (s₀ : Shared) (H₀ : Hp) (ex : List Addr) (pins : List (Addr × Obj)) : Cx :=
 { X with N := N ++ F, s₀ := s₀, H₀ := H₀, env := compEnvC scope (A8c F X.env) C X.env, outer := X.stack, ex := ex, fn := fun _ => false, pn := pins, xe := fun _ _ => False }
structure U7 (N F : List Str) (js : List Nat) (sc : Scope) (XN : List Str) (env : Env) : Prop where
 kind : sc.kind = .function
 cell : ∀ y ∈ sc.names, y.2 ≠ .cell
 loc : ∀ y ∈ sc.names, y.2 = .local -> sc.names.lookup y.1 = some .local
 nd : (N ++ F).Nodup
 clos : closureFor sc env = pure (A8c F env)
 fr : ∀ y ∈ (relabel sc env).names, y.2 = .cell \/ y.2 = .free -> y.1 ∈ F
 at_ : ∀ (k : Nat) (x : Str), F[k]? = some x -> (∃ j : Nat, js[k]? = some j /\ XN[j]? = some x) /\ (∃ c, env.cells.lookup x = some c) /\ env.kindOf x = some .cell /\ (relabel sc env).names.lookup x = some .cell
 jl : js.length = F.length
def U1f (n : Nat) (js : List Nat) (wi : TI) (g : TG) (tc : TT) (te : TE) : TE := fun σ H Q => wi σ H fun J H1 => ∀ D, H1 D = none ->
 ∃ (m : Nat) (W : Nat -> List V -> Hp -> Prop), W 0 [] (upd H1 D (.lst [])) /\ ∀ i ys H2, W i ys H2 -> i <= m /\ H2 D = some (.lst ys) /\ ((J.stop i H2 /\ Q (.ref D) H2) \/ (i < m /\ J.go i H2 /\ ∀ x H3, J.yld i H2 x H3 ->
   g x (List.replicate n none ++ B7k js σ) H3 fun σ4 H4 => tc σ4 H4 fun b H5 => if b = true then te σ4 H5 fun y H6 => H6 D = some (.lst ys) /\ ys.length < sizeLine /\ W (i + 1) (ys ++ [y]) (upd H6 D (.lst (ys ++ [y]))) else W (i + 1) ys H5))
def V4j (n : Nat) (js : List Nat) (wi : TI) (g : TG) (te : TE) : TE := fun σ H Q => wi σ H fun J H1 => ∀ D, H1 D = none ->
 ∃ (m : Nat) (W : Nat -> List V -> Hp -> Prop), W 0 [] (upd H1 D (.lst [])) /\ ∀ i ys H2, W i ys H2 -> i <= m /\ H2 D = some (.lst ys) /\ ((J.stop i H2 /\ Q (.ref D) H2) \/ (i < m /\ J.go i H2 /\ ∀ x H3, J.yld i H2 x H3 ->
   g x (List.replicate n none ++ B7k js σ) H3 fun σ4 H4 => te σ4 H4 fun y H6 => H6 D = some (.lst ys) /\ ys.length < sizeLine /\ W (i + 1) (ys ++ [y]) (upd H6 D (.lst (ys ++ [y])))))
theorem A0rj {F : List Str} {env : Env} {x : Str} {c : Addr} (h : (A8c F env).lookup x = some c) : x ∈ F /\ c = (env.cells.lookup x).getD 0 := by
 have := PySem.mem_of_lookup h
 obtain ⟨y, hy, e⟩ := List.mem_map.mp this
 cases e
 exact ⟨hy, rfl⟩
theorem Y8d {env : Env} {x : Str} : ∀ {F : List Str}, x ∈ F -> (A8c F env).lookup x = some ((env.cells.lookup x).getD 0)
 | y :: F, h => by
   show List.lookup x ((y, (env.cells.lookup y).getD 0) :: A8c F env) = _
   by_cases e : x = y
   . subst e; simp [List.lookup]
   . have hb : (x == y) = false := beq_eq_false_iff_ne.mpr e
     rw [List.lookup_cons, hb]
     exact Y8d (by rcases List.mem_cons.mp h with z | z; exact absurd z e; exact z)
section
variable {X : Cx} {N F : List Str} {js : List Nat} {scope : Scope}
theorem U7.sub (S : U7 N F js scope X.N X.env) : ∀ x c, (A8c F X.env).lookup x = some c -> X.env.cells.lookup x = some c := fun x c z => by
 obtain ⟨hx, rfl⟩ := A0rj z
 obtain ⟨k, hk⟩ := List.mem_iff_getElem?.mp hx
 obtain ⟨_, ⟨c, hc⟩, _⟩ := S.at_ k x hk
 rw [hc]; rfl
theorem U7.has (S : U7 N F js scope X.N X.env) {x : Str} (hx : x ∈ F) : ∃ c, (A8c F X.env).lookup x = some c /\ X.env.cells.lookup x = some c :=
 ⟨_, Y8d hx, S.sub _ _ (Y8d hx)⟩
theorem D9a {pins : List (Addr × Obj)} {σ : St} {H : Hp} {s : Shared} (S : U7 N F js scope X.N X.env) (I : Inv X pins σ H s) {h' : Heap} {m : Str -> Option Value} {C : Addr} (hc : ∀ x c v, X.env.cells.lookup x = some c -> s.heap.IsCell c v -> h'.IsCell c v) :
   ∀ (i : Nat) (x : Str) (v : V), (N ++ F)[i]? = some x -> (List.replicate N.length none ++ B7k js σ)[i]? = some (some v) -> ∃ u, V0 v u /\ Look (compEnvC scope (A8c F X.env) C X.env) h' m x u := by
 intro i x v e1 e2
 by_cases hi : i < N.length
 . rw [List.getElem?_append_left (by simpa using hi), List.getElem?_replicate] at e2
   split at e2 <;> cases e2
 rw [List.getElem?_append_right (by omega)] at e1
 rw [List.getElem?_append_right (by simp; omega)] at e2
 rw [List.length_replicate] at e2
 obtain ⟨⟨j, hj, hx⟩, ⟨c, hcc⟩, kx, kr⟩ := S.at_ _ x e1
 unfold B7k at e2
 rw [List.getElem?_map, hj] at e2
 have e2 : (σ[j]?).getD none = some v := Option.some.inj e2
 have e3 : σ[j]? = some (some v) := by
   cases q : σ[j]? with
   | none => rw [q] at e2; cases e2
   | some o => rw [q] at e2; exact congrArg some e2
 obtain ⟨m0, _, hl⟩ := I.loc
 obtain ⟨u, r, l⟩ := hl j x v hx e3 (.inr (.inl kx))
 refine ⟨u, r, .inr ⟨.inl kr, c, ?_, ?_⟩⟩
 . obtain ⟨c', h1, h2⟩ := S.has (List.mem_of_getElem? e1)
   rw [hcc] at h2
   cases h2
   exact h1
 rcases l with ⟨k, _⟩ | ⟨_, c', h1, h2⟩
 . rw [kx] at k; cases k
 rw [hcc] at h1
 cases h1
 exact hc x c _ hcc h2
theorem Y7m (S : U7 N F js scope X.N X.env) (σ : St) : (List.replicate N.length none ++ B7k js σ : St).length = (N ++ F).length := by
 unfold B7k
 rw [List.length_append, List.length_replicate, List.length_map, S.jl, List.length_append]
theorem D9d {pins : List (Addr × Obj)} {σ : St} {H : Hp} {s : Shared} {it : Addr} {h' : Heap} (S : U7 N F js scope X.N X.env) (I : Inv X pins σ H s) (hf : A5f X pins H it) (hit : ∃ o, s.heap.get? it = some o) (hnb : X.base.get? it = none)
   (hns : h'.Ns s.heap.objs.size (fun _ => none)) (hsb : ∀ b o, s.heap.get? b = some o -> h'.get? b = some o) {tk : Nat} :
   Inv (X.compF scope N F s.heap.objs.size s H [it] (X.pn ++ pins)) [] (List.replicate N.length none ++ B7k js σ) H { s with heap := h', toks := tk } := by
 obtain ⟨f0, f1, f2, f3, f4, f5⟩ := hf
 obtain ⟨oi, ei⟩ := hit
 have lt : it < s.heap.objs.size := Heap.lt_size ei
 have ck : ∀ c v, s.heap.IsCell c v -> h'.IsCell c v := fun c v ⟨o, e, d⟩ => ⟨o, hsb _ _ e, d⟩
 have inF : ∀ x, ((compEnvC scope (A8c F X.env) s.heap.objs.size X.env).kindOf x = some .cell \/ (compEnvC scope (A8c F X.env) s.heap.objs.size X.env).kindOf x = some .free) -> x ∈ F := by
   intro x z
   have z : (relabel scope X.env).names.lookup x = some .cell \/ (relabel scope X.env).names.lookup x = some .free := z
   rcases z with z | z
   . exact S.fr _ (PySem.mem_of_lookup z) (.inl rfl)
   . exact S.fr _ (PySem.mem_of_lookup z) (.inr rfl)
 refine ⟨⟨I.ok.mod, S.kind, I.ok.glob, I.ok.blt, Nat.le_refl _, fun x y c z z' => I.ok.inj x y c (S.sub x c z) (S.sub y c z'), fun x z => ?_, fun x c z _ => (nomatch z), I.ok.hd, I.ok.frames, .inl rfl, fun b hb => ?_, I.bs, Nat.le_trans I.ok.bsz I.sz, fun b o e hb => ?_, fun b hb hfs => ?_, I.stack, I.stkFree⟩,
   rfl, I.bare, Un.kept hsb, ⟨_, hns, fun i x v e1 e2 e3 => D9a S I (fun x c v _ z => ck c v z) i x v e1 e2⟩, fun x c z => ?_, I.hok.fresh (Nat.le_refl _), fun x c z => I.freeC x c (S.sub x c z), fun p hp => ?_, I.hok.kept hsb, Y7m S σ⟩
 . obtain ⟨c, h1, _⟩ := S.has (inF x z)
   exact ⟨c, h1⟩
 . have e : b = it := by simpa using hb
   subst e
   exact ⟨Nat.ne_of_lt lt, fun x c z => f4 x c (S.sub x c z)⟩
 . have e' : b = it := by simpa using hb
   subst e'
   rw [hnb] at e
   cases e
 . have e' : b = it := by simpa using hb
   subst e'
   rcases List.mem_cons.mp (I.stkSub b hfs) with z | z
   . exact f1 z
   . exact f2 z
 . obtain ⟨v, z'⟩ := I.cell x c (S.sub x c z)
   exact ⟨v, ck c v z'⟩
 have hp' : p ∈ X.pn ++ pins := by simpa using hp
 obtain ⟨q1, q2, q3, q4, q5⟩ := I.pin p hp'
 refine ⟨hsb _ _ q1, q2, Nat.ne_of_lt (Heap.lt_size q1), fun z => ?_, q5⟩
 rcases List.mem_cons.mp (I.stkSub p.1 z) with z | z
 . exact q3 z
 exact q4 z
theorem D9j {pins pl : List (Addr × Obj)} {σ σ' : St} {H H' : Hp} {s s' : Shared} {it : Addr} (S : U7 N F js scope X.N X.env) (I : Inv X pins σ H s) (hf : A5f X pins H it) (J : Inv (X.compF scope N F s.heap.objs.size s H [it] (X.pn ++ pins)) pl σ' H' s') :
   Inv (X.compF scope N F s.heap.objs.size s H [it] (X.pn ++ pins)) [] (List.replicate N.length none ++ B7k js σ) H' s' := by
 obtain ⟨m, hn, _⟩ := J.loc
 refine ⟨J.ok, J.os, J.bare, J.base, ⟨m, hn, fun i x v e1 e2 e3 => D9a S I (fun x c v z q => ?_) i x v e1 e2⟩, J.cell, J.free, J.freeC, fun p hp => J.pin p (by
   have hp : p ∈ (X.pn ++ pins) ++ [] := hp
   rw [List.append_nil] at hp
   exact List.mem_append_left _ hp), J.hok, Y7m S σ⟩
 obtain ⟨o, e, d⟩ := q
 have ne : c ∉ [it] := fun w => hf.2.2.2.2.1 x c z (by simpa using w)
 obtain ⟨sl, q⟩ := J.base.any e (I.freeC x c z) ne
 exact ⟨_, q, d⟩
theorem U0c {elt target iter c : Expr} {scope : Scope} {pos : Pos} {N F : List Str} {js : List Nat} {wi : TI} {g : TG} {tc : TT} {te : TE} (S : U7 N F js scope X.N X.env) (hd : A1b X) (hi : PIH X target iter wi) (hex : X.ex = [])
   (hg : ∀ C s₀ H₀ ex pn, A1b (X.compF scope N F C s₀ H₀ ex pn) -> PG (X.compF scope N F C s₀ H₀ ex pn) target g)
   (hc : ∀ C s₀ H₀ ex pn, A1b (X.compF scope N F C s₀ H₀ ex pn) -> PT (X.compF scope N F C s₀ H₀ ex pn) c tc)
   (he : ∀ C s₀ H₀ ex pn, A1b (X.compF scope N F C s₀ H₀ ex pn) -> PE (X.compF scope N F C s₀ H₀ ex pn) elt te)
   {pins : List (Addr × Obj)} {s : Shared} {σ : St} {H : Hp} {Q : VK} {RR : Value -> Env -> Result -> Shared -> Prop} (I : Inv X pins σ H s) (h : (U1f N.length js wi g tc te) σ H Q)
   (hRR : ∀ (D C : Addr) (s6 : Shared) (H5 : Hp) (mm : Str -> Option Value), Inv X pins σ H5 s6 -> s6.heap.Ns C mm -> A5f X pins H5 C -> Q (.ref D) H5 -> RR (.ref D) (compEnvC scope (A8c F X.env) C X.env) (.ok .next) s6) :
   wpAny (model X.prog X.w) X.A (eval iter X.env) (fun v s1 => wpAny (model X.prog X.w) X.A (pyIter v) (fun itv s2 => wpAny (model X.prog X.w) X.A (newList []) (fun acc s3 => wpAny (model X.prog X.w) X.A (newFunctionEnv scope X.env.globals (A8c F X.env) [] X.env.qual none .none (some X.env)) (fun cenv s4 =>
     codeAny (model X.prog X.w) X.A (.compStart (.ListComp elt [⟨target, iter, [c], 0⟩] scope pos) 0 itv acc { cenv with scope := relabel scope X.env }) (RR acc { cenv with scope := relabel scope X.env }) s4) X.xe s3) X.xe s2) X.xe s1) X.xe s := by
 refine thn (hi pins s σ H _ I h) fun v s1 h1 => thn h1 fun itv s2 h2 => ?_
 obtain ⟨it, tn, J, H2, rfl, I2, T, st2, f2, R⟩ := h2
 obtain ⟨oi, ei, di⟩ := T.obj _ _ st2
 have hf2 := I2.hok.fresh (Nat.le_refl _)
 refine wpAny_newObj_type ?_
 have I3 : Inv X pins σ (upd H2 s2.heap.objs.size (.lst [])) { s2 with heap := s2.heap.push { cls := .type "list", dict := none, data := .seq ([] : List Value).toArray } } := Inv.lnew (t' := s2.toks) I2 .nil (Nat.zero_le _)
 refine wpAny_newFunctionEnv S.cell (by intro y hy; simp at hy) (fun h4 hns hsb => ?_) S.kind
 dsimp only at hns hsb ⊢
 generalize hG : s2.heap.push { cls := .type "list", dict := none, data := .seq ([] : List Value).toArray } = G at I3 hns hsb ⊢
 generalize hD : s2.heap.objs.size = D at I3 hf2
 have nD : it ≠ D := by rw [<- hD]; exact Nat.ne_of_lt (Heap.lt_size ei)
 have eiG : G.get? it = some oi := by rw [<- hG]; exact Heap.get?_push_of_some _ ei
 have kp : ∀ b o, G.get? b = some o -> h4.get? b = some o := fun b o e => hsb.extBut b o (Nat.ne_of_lt (Heap.lt_size e)) (Heap.get?_push_of_some _ e)
 have f3 : A5f X pins (upd H2 D (.lst [])) it := ⟨by rw [G6 nD]; exact f2.1, f2.2⟩
 have nb : X.base.get? it = none := by
   cases q : X.base.get? it with
   | none => rfl
   | some o =>
     have := (I.ok.bs it o q).1
     rcases f2.2.2.2.1 with z | z
     . rw [hex] at z; simp at z
     . exact absurd (Nat.lt_of_lt_of_le (Heap.lt_size this) z) (Nat.lt_irrefl _)
 have hns' : h4.Ns G.objs.size (fun _ => none) := by
   obtain ⟨o, es, ep, q1, q2, q3, q4⟩ := hns
   exact ⟨o, es, ep, q1, q2, q3, fun x => by rw [q4]; rfl⟩
 have I4 := D9d (tk := s2.toks + ([] : List (Str × Value)).length) S I3 f3 ⟨oi, eiG⟩ nb hns' kp
 have hdc : A1b (X.compF scope N F G.objs.size { s2 with heap := G } (upd H2 D (.lst [])) [it] (X.pn ++ pins)) := by
   rcases hd with z | ⟨x, o, u, vs, z, e, d, n⟩
   . exact .inl z
   . refine .inr ⟨x, o, u, vs, z, ?_, d, n⟩
     have q := I2.base.frzs x o u e
     show upd H2 D (.lst []) x = _
     rw [G6 fun w => by rw [w, hf2] at q; cases q]
     exact q
 obtain ⟨m, W, w0, turn⟩ := R D hf2
 have gg := hg _ _ _ _ _ hdc
 have cc := hc _ _ _ _ _ hdc
 have ee := he _ _ _ _ _ hdc
 have fpc : ∀ {H' : Hp} {σ' : St} {s' : Shared} {pl : List (Addr × Obj)}, Inv (X.compF scope N F G.objs.size { s2 with heap := G } (upd H2 D (.lst [])) [it] (X.pn ++ pins)) pl σ' H' s' -> H' it = none -> (∀ p ∈ pl, p.1 ≠ it) -> A5f (X.compF scope N F G.objs.size { s2 with heap := G } (upd H2 D (.lst [])) [it] (X.pn ++ pins)) pl H' it := by
   intro H' σ' s' pl J' hn hp
   refine ⟨hn, Nat.ne_of_lt (Heap.lt_size eiG), ?_, .inl (List.mem_singleton.mpr rfl), (fun x c z => f2.2.2.2.2.1 x c (S.sub x c z)), fun p hpp => ?_⟩
   . intro z
     rcases List.mem_cons.mp (I.stkSub it z) with z | z
     . exact f2.2.1 z
     . exact f2.2.2.1 z
   . rcases List.mem_append.mp hpp with z | z
     . exact f2.2.2.2.2.2 p z
     . exact hp p z
 have loop : codeAny (model X.prog X.w) X.A (.compLoop (.ListComp elt [⟨target, iter, [c], 0⟩] scope pos) 0 (.ref it) (.ref D) (compEnvC scope (A8c F X.env) G.objs.size X.env))
     (RR (.ref D) (compEnvC scope (A8c F X.env) G.objs.size X.env))
     { s2 with heap := h4, toks := s2.toks + ([] : List (Str × Value)).length } := by
   refine kct_loop (fun k s' => ∃ i ys H', k = m + 1 - i /\ Inv (X.compF scope N F G.objs.size { s2 with heap := G } (upd H2 D (.lst [])) [it] (X.pn ++ pins)) [] (List.replicate N.length none ++ B7k js σ) H' s' /\ tn i s'.heap /\ H' it = none /\ W i ys H') ?_ (m + 1)
     ⟨0, [], _, rfl, I4, T.keep _ _ _ st2 fun o e => kp it o (by rw [<- hG]; exact Heap.get?_push_of_some _ e), f3.1, w0⟩
   rintro k s5 ⟨i, ys, H5, rfl, I5, st5, n5, w5⟩
   obtain ⟨hi5, hD5, w5⟩ := turn i ys H5 w5
   rcases w5 with ⟨stop, q⟩ | ⟨lt5, go, step⟩
   . refine wpAny_mono (T.done (X.compF scope N F G.objs.size { s2 with heap := G } (upd H2 D (.lst [])) [it] (X.pn ++ pins)) rfl rfl rfl hdc i [] s5 _ H5 (fun _ _ => False) I5 (fpc I5 n5 (by simp)) st5 stop) (fun r s6 z => ?_) (fun _ _ z => z.elim)
     obtain ⟨rfl, I6⟩ := z
     obtain ⟨mm, hn6, _⟩ := I6.loc
     have B6 := I6.base
     have J6 : Inv X pins σ H5 s6 := by
       refine I3.call' (ch := [it]) I6.os ⟨B6.keep, B6.slot, B6.free, B6.there, B6.tups, B6.frzs, B6.tbls⟩ I6.hok I6.bare (fun b hb => ?_)
       have e : b = it := by simpa using hb
       subst e
       exact ⟨f2.2.2.2.1, f2.2.1, f2.2.2.2.2.1, f2.2.2.2.2.2⟩
     have szG : X.s₀.heap.objs.size <= G.objs.size := I3.sz
     refine hRR D G.objs.size s6 H5 mm J6 hn6 ⟨I6.free, ?_, ?_, .inr szG, ?_, ?_⟩ q
     . exact Nat.ne_of_gt I3.lt
     . intro z
       obtain ⟨_, o, ho, _⟩ := I3.funs.mem z
       exact Nat.lt_irrefl _ (Heap.lt_size ho)
     . rintro x c z rfl
       obtain ⟨v', o, ho, _⟩ := I3.cell x _ z
       exact Nat.lt_irrefl _ (Heap.lt_size ho)
     . rintro p hp z
       have zz := (I3.pin p hp).1
       rw [z] at zz
       exact Nat.lt_irrefl _ (Heap.lt_size zz)
   . refine wpAny_mono (T.item (X.compF scope N F G.objs.size { s2 with heap := G } (upd H2 D (.lst [])) [it] (X.pn ++ pins)) rfl rfl rfl hdc i [] s5 _ H5 (fun _ _ => False) I5 (fpc I5 n5 (by simp)) st5 go) (fun r s6 z => ?_) (fun _ _ z => z.elim)
     obtain ⟨u, rfl, z⟩ := z
     refine wpAny_mono z (fun _ s7 z => ?_) (fun _ _ z => z.elim)
     obtain ⟨x, I7, rx, yl, st7⟩ := z
     obtain ⟨o7, e7, d7⟩ := T.obj _ _ st7
     obtain ⟨p0, p1, p2, _⟩ := fpc I7 n5 (by simp)
     have I7' : Inv (X.compF scope N F G.objs.size { s2 with heap := G } (upd H2 D (.lst [])) [it] (X.pn ++ pins)) [(it, o7)] (List.replicate N.length none ++ B7k js σ) H5 s7 := I7.pins_of fun p hp => by
       have e : p = (it, o7) := by simpa using hp
       subst e
       exact ⟨e7, p0, p1, p2, d7⟩
     have back : ∀ {i' : Nat} {ys' : List V} {H' : Hp} {σ' : St} {s' : Shared}, i' = i + 1 -> Inv (X.compF scope N F G.objs.size { s2 with heap := G } (upd H2 D (.lst [])) [it] (X.pn ++ pins)) [(it, o7)] σ' H' s' -> W i' ys' H' ->
         ∃ k', k' < m + 1 - i /\ ∃ i ys H', k' = m + 1 - i /\ Inv (X.compF scope N F G.objs.size { s2 with heap := G } (upd H2 D (.lst [])) [it] (X.pn ++ pins)) [] (List.replicate N.length none ++ B7k js σ) H' s' /\ tn i s'.heap /\ H' it = none /\ W i ys H' := by
       rintro i' ys' H' σ' s' rfl J' w'
       obtain ⟨q1, q2, _⟩ := J'.pin (it, o7) (List.mem_append_right _ (List.mem_singleton.mpr rfl))
       refine ⟨m + 1 - (i + 1), by omega, i + 1, ys', H', rfl, D9j S I3 f3 J', T.keep _ _ _ st7 fun o z => ?_, q2, w'⟩
       rw [e7] at z
       cases z
       exact q1
     refine wpAny_mono (gg [(it, o7)] s7 _ H5 x u _ I7' rx (step x H5 yl)) (fun _ s8 z => ?_) (fun _ _ z => z.elim)
     obtain ⟨σ8, H8, I8, q8⟩ := z
     refine wpAny_mono (cc [(it, o7)] s8 σ8 H8 _ I8 q8) (fun b s9 z => ?_) (fun _ _ z => z.elim)
     obtain ⟨H9, I9, q9⟩ := z
     cases b with
     | false =>
       simp only [Bool.false_eq_true, if_false] at q9 ⊢
       exact back rfl I9 q9
     | true =>
       simp only [if_true] at q9 ⊢
       refine wpAny_mono (ee [(it, o7)] s9 σ8 H9 _ I9 q9) (fun y s10 z => ?_) (fun _ _ z => z.elim)
       obtain ⟨yv, H10, I10, ry, hD10, hz10, w10⟩ := z
       refine wpAny_mono (B5t (X := X.compF scope N F G.objs.size { s2 with heap := G } (upd H2 D (.lst [])) [it] (X.pn ++ pins)) [(it, o7)] s10 σ8 H10 (.ref D) [yv] (.ref D) [y] (fun _ H11 => W (i + 1) (ys ++ [yv]) H11) I10 rfl (.cons ry .nil) ⟨D, ys, yv, rfl, rfl, hD10, hz10, w10⟩) (fun _ s11 z => ?_) (fun _ _ z => z.elim)
       obtain ⟨_, H11, I11, _, w11⟩ := z
       exact back rfl I11 w11
 exact codeAny_compStart_list loop (T.self _ 0 _ _ _ (T.keep _ _ _ st2 fun o e => kp it o (by rw [<- hG]; exact Heap.get?_push_of_some _ e)) loop)
theorem J5c {elt target iter : Expr} {scope : Scope} {pos : Pos} {N F : List Str} {js : List Nat} {wi : TI} {g : TG} {te : TE} (S : U7 N F js scope X.N X.env) (hd : A1b X) (hi : PIH X target iter wi) (hex : X.ex = [])
   (hg : ∀ C s₀ H₀ ex pn, A1b (X.compF scope N F C s₀ H₀ ex pn) -> PG (X.compF scope N F C s₀ H₀ ex pn) target g)
   (he : ∀ C s₀ H₀ ex pn, A1b (X.compF scope N F C s₀ H₀ ex pn) -> PE (X.compF scope N F C s₀ H₀ ex pn) elt te)
   {pins : List (Addr × Obj)} {s : Shared} {σ : St} {H : Hp} {Q : VK} {RR : Value -> Env -> Result -> Shared -> Prop} (I : Inv X pins σ H s) (h : (V4j N.length js wi g te) σ H Q)
   (hRR : ∀ (D C : Addr) (s6 : Shared) (H5 : Hp) (mm : Str -> Option Value), Inv X pins σ H5 s6 -> s6.heap.Ns C mm -> A5f X pins H5 C -> Q (.ref D) H5 -> RR (.ref D) (compEnvC scope (A8c F X.env) C X.env) (.ok .next) s6) :
   wpAny (model X.prog X.w) X.A (eval iter X.env) (fun v s1 => wpAny (model X.prog X.w) X.A (pyIter v) (fun itv s2 => wpAny (model X.prog X.w) X.A (newList []) (fun acc s3 => wpAny (model X.prog X.w) X.A (newFunctionEnv scope X.env.globals (A8c F X.env) [] X.env.qual none .none (some X.env)) (fun cenv s4 =>
     codeAny (model X.prog X.w) X.A (.compStart (.ListComp elt [⟨target, iter, [], 0⟩] scope pos) 0 itv acc { cenv with scope := relabel scope X.env }) (RR acc { cenv with scope := relabel scope X.env }) s4) X.xe s3) X.xe s2) X.xe s1) X.xe s := by
 refine thn (hi pins s σ H _ I h) fun v s1 h1 => thn h1 fun itv s2 h2 => ?_
 obtain ⟨it, tn, J, H2, rfl, I2, T, st2, f2, R⟩ := h2
 obtain ⟨oi, ei, di⟩ := T.obj _ _ st2
 have hf2 := I2.hok.fresh (Nat.le_refl _)
 refine wpAny_newObj_type ?_
 have I3 : Inv X pins σ (upd H2 s2.heap.objs.size (.lst [])) { s2 with heap := s2.heap.push { cls := .type "list", dict := none, data := .seq ([] : List Value).toArray } } := Inv.lnew (t' := s2.toks) I2 .nil (Nat.zero_le _)
 refine wpAny_newFunctionEnv S.cell (by intro y hy; simp at hy) (fun h4 hns hsb => ?_) S.kind
 dsimp only at hns hsb ⊢
 generalize hG : s2.heap.push { cls := .type "list", dict := none, data := .seq ([] : List Value).toArray } = G at I3 hns hsb ⊢
 generalize hD : s2.heap.objs.size = D at I3 hf2
 have nD : it ≠ D := by rw [<- hD]; exact Nat.ne_of_lt (Heap.lt_size ei)
 have eiG : G.get? it = some oi := by rw [<- hG]; exact Heap.get?_push_of_some _ ei
 have kp : ∀ b o, G.get? b = some o -> h4.get? b = some o := fun b o e => hsb.extBut b o (Nat.ne_of_lt (Heap.lt_size e)) (Heap.get?_push_of_some _ e)
 have f3 : A5f X pins (upd H2 D (.lst [])) it := ⟨by rw [G6 nD]; exact f2.1, f2.2⟩
 have nb : X.base.get? it = none := by
   cases q : X.base.get? it with
   | none => rfl
   | some o =>
     have := (I.ok.bs it o q).1
     rcases f2.2.2.2.1 with z | z
     . rw [hex] at z; simp at z
     . exact absurd (Nat.lt_of_lt_of_le (Heap.lt_size this) z) (Nat.lt_irrefl _)
 have hns' : h4.Ns G.objs.size (fun _ => none) := by
   obtain ⟨o, es, ep, q1, q2, q3, q4⟩ := hns
   exact ⟨o, es, ep, q1, q2, q3, fun x => by rw [q4]; rfl⟩
 have I4 := D9d (tk := s2.toks + ([] : List (Str × Value)).length) S I3 f3 ⟨oi, eiG⟩ nb hns' kp
 have hdc : A1b (X.compF scope N F G.objs.size { s2 with heap := G } (upd H2 D (.lst [])) [it] (X.pn ++ pins)) := by
   rcases hd with z | ⟨x, o, u, vs, z, e, d, n⟩
   . exact .inl z
   . refine .inr ⟨x, o, u, vs, z, ?_, d, n⟩
     have q := I2.base.frzs x o u e
     show upd H2 D (.lst []) x = _
     rw [G6 fun w => by rw [w, hf2] at q; cases q]
     exact q
 obtain ⟨m, W, w0, turn⟩ := R D hf2
 have gg := hg _ _ _ _ _ hdc
 have ee := he _ _ _ _ _ hdc
 have fpc : ∀ {H' : Hp} {σ' : St} {s' : Shared} {pl : List (Addr × Obj)}, Inv (X.compF scope N F G.objs.size { s2 with heap := G } (upd H2 D (.lst [])) [it] (X.pn ++ pins)) pl σ' H' s' -> H' it = none -> (∀ p ∈ pl, p.1 ≠ it) -> A5f (X.compF scope N F G.objs.size { s2 with heap := G } (upd H2 D (.lst [])) [it] (X.pn ++ pins)) pl H' it := by
   intro H' σ' s' pl J' hn hp
   refine ⟨hn, Nat.ne_of_lt (Heap.lt_size eiG), ?_, .inl (List.mem_singleton.mpr rfl), (fun x c z => f2.2.2.2.2.1 x c (S.sub x c z)), fun p hpp => ?_⟩
   . intro z
     rcases List.mem_cons.mp (I.stkSub it z) with z | z
     . exact f2.2.1 z
     . exact f2.2.2.1 z
   . rcases List.mem_append.mp hpp with z | z
     . exact f2.2.2.2.2.2 p z
     . exact hp p z
 have loop : codeAny (model X.prog X.w) X.A (.compLoop (.ListComp elt [⟨target, iter, [], 0⟩] scope pos) 0 (.ref it) (.ref D) (compEnvC scope (A8c F X.env) G.objs.size X.env))
     (RR (.ref D) (compEnvC scope (A8c F X.env) G.objs.size X.env))
     { s2 with heap := h4, toks := s2.toks + ([] : List (Str × Value)).length } := by
   refine J4r (fun k s' => ∃ i ys H', k = m + 1 - i /\ Inv (X.compF scope N F G.objs.size { s2 with heap := G } (upd H2 D (.lst [])) [it] (X.pn ++ pins)) [] (List.replicate N.length none ++ B7k js σ) H' s' /\ tn i s'.heap /\ H' it = none /\ W i ys H') ?_ (m + 1)
     ⟨0, [], _, rfl, I4, T.keep _ _ _ st2 fun o e => kp it o (by rw [<- hG]; exact Heap.get?_push_of_some _ e), f3.1, w0⟩
   rintro k s5 ⟨i, ys, H5, rfl, I5, st5, n5, w5⟩
   obtain ⟨hi5, hD5, w5⟩ := turn i ys H5 w5
   rcases w5 with ⟨stop, q⟩ | ⟨lt5, go, step⟩
   . refine wpAny_mono (T.done (X.compF scope N F G.objs.size { s2 with heap := G } (upd H2 D (.lst [])) [it] (X.pn ++ pins)) rfl rfl rfl hdc i [] s5 _ H5 (fun _ _ => False) I5 (fpc I5 n5 (by simp)) st5 stop) (fun r s6 z => ?_) (fun _ _ z => z.elim)
     obtain ⟨rfl, I6⟩ := z
     obtain ⟨mm, hn6, _⟩ := I6.loc
     have B6 := I6.base
     have J6 : Inv X pins σ H5 s6 := by
       refine I3.call' (ch := [it]) I6.os ⟨B6.keep, B6.slot, B6.free, B6.there, B6.tups, B6.frzs, B6.tbls⟩ I6.hok I6.bare (fun b hb => ?_)
       have e : b = it := by simpa using hb
       subst e
       exact ⟨f2.2.2.2.1, f2.2.1, f2.2.2.2.2.1, f2.2.2.2.2.2⟩
     have szG : X.s₀.heap.objs.size <= G.objs.size := I3.sz
     refine hRR D G.objs.size s6 H5 mm J6 hn6 ⟨I6.free, ?_, ?_, .inr szG, ?_, ?_⟩ q
     . exact Nat.ne_of_gt I3.lt
     . intro z
       obtain ⟨_, o, ho, _⟩ := I3.funs.mem z
       exact Nat.lt_irrefl _ (Heap.lt_size ho)
     . rintro x c z rfl
       obtain ⟨v', o, ho, _⟩ := I3.cell x _ z
       exact Nat.lt_irrefl _ (Heap.lt_size ho)
     . rintro p hp z
       have zz := (I3.pin p hp).1
       rw [z] at zz
       exact Nat.lt_irrefl _ (Heap.lt_size zz)
   . refine wpAny_mono (T.item (X.compF scope N F G.objs.size { s2 with heap := G } (upd H2 D (.lst [])) [it] (X.pn ++ pins)) rfl rfl rfl hdc i [] s5 _ H5 (fun _ _ => False) I5 (fpc I5 n5 (by simp)) st5 go) (fun r s6 z => ?_) (fun _ _ z => z.elim)
     obtain ⟨u, rfl, z⟩ := z
     refine wpAny_mono z (fun _ s7 z => ?_) (fun _ _ z => z.elim)
     obtain ⟨x, I7, rx, yl, st7⟩ := z
     obtain ⟨o7, e7, d7⟩ := T.obj _ _ st7
     obtain ⟨p0, p1, p2, _⟩ := fpc I7 n5 (by simp)
     have I7' : Inv (X.compF scope N F G.objs.size { s2 with heap := G } (upd H2 D (.lst [])) [it] (X.pn ++ pins)) [(it, o7)] (List.replicate N.length none ++ B7k js σ) H5 s7 := I7.pins_of fun p hp => by
       have e : p = (it, o7) := by simpa using hp
       subst e
       exact ⟨e7, p0, p1, p2, d7⟩
     have back : ∀ {i' : Nat} {ys' : List V} {H' : Hp} {σ' : St} {s' : Shared}, i' = i + 1 -> Inv (X.compF scope N F G.objs.size { s2 with heap := G } (upd H2 D (.lst [])) [it] (X.pn ++ pins)) [(it, o7)] σ' H' s' -> W i' ys' H' ->
         ∃ k', k' < m + 1 - i /\ ∃ i ys H', k' = m + 1 - i /\ Inv (X.compF scope N F G.objs.size { s2 with heap := G } (upd H2 D (.lst [])) [it] (X.pn ++ pins)) [] (List.replicate N.length none ++ B7k js σ) H' s' /\ tn i s'.heap /\ H' it = none /\ W i ys H' := by
       rintro i' ys' H' σ' s' rfl J' w'
       obtain ⟨q1, q2, _⟩ := J'.pin (it, o7) (List.mem_append_right _ (List.mem_singleton.mpr rfl))
       refine ⟨m + 1 - (i + 1), by omega, i + 1, ys', H', rfl, D9j S I3 f3 J', T.keep _ _ _ st7 fun o z => ?_, q2, w'⟩
       rw [e7] at z
       cases z
       exact q1
     refine wpAny_mono (gg [(it, o7)] s7 _ H5 x u _ I7' rx (step x H5 yl)) (fun _ s8 z => ?_) (fun _ _ z => z.elim)
     obtain ⟨σ8, H8, I8, q8⟩ := z
     refine wpAny_mono (ee [(it, o7)] s8 σ8 H8 _ I8 q8) (fun y s10 z => ?_) (fun _ _ z => z.elim)
     obtain ⟨yv, H10, I10, ry, hD10, hz10, w10⟩ := z
     refine wpAny_mono (B5t (X := X.compF scope N F G.objs.size { s2 with heap := G } (upd H2 D (.lst [])) [it] (X.pn ++ pins)) [(it, o7)] s10 σ8 H10 (.ref D) [yv] (.ref D) [y] (fun _ H11 => W (i + 1) (ys ++ [yv]) H11) I10 rfl (.cons ry .nil) ⟨D, ys, yv, rfl, rfl, hD10, hz10, w10⟩) (fun _ s11 z => ?_) (fun _ _ z => z.elim)
     obtain ⟨_, H11, I11, _, w11⟩ := z
     exact back rfl I11 w11
 exact codeAny_compStart_list loop (T.self _ 0 _ _ _ (T.keep _ _ _ st2 fun o e => kp it o (by rw [<- hG]; exact Heap.get?_push_of_some _ e)) loop)
theorem Y8f {elt target iter : Expr} {c : Expr} {tc : TT} {pos : Pos} {wi : TI} {g : TG} {te : TE} (S : U7 N F js scope X.N X.env) (hd : A1b X) (hi : PIH X target iter wi) (hex : X.ex = [])
   (hg : ∀ C s₀ H₀ ex pn, A1b (X.compF scope N F C s₀ H₀ ex pn) -> PG (X.compF scope N F C s₀ H₀ ex pn) target g)
   (hc : ∀ C s₀ H₀ ex pn, A1b (X.compF scope N F C s₀ H₀ ex pn) -> PT (X.compF scope N F C s₀ H₀ ex pn) c tc)
   (he : ∀ C s₀ H₀ ex pn, A1b (X.compF scope N F C s₀ H₀ ex pn) -> PE (X.compF scope N F C s₀ H₀ ex pn) elt te)
   (hs : ∀ x, foldedSetIterable iter X.env x = pure x := by intro _; rfl) : PE X (.ListComp elt [⟨target, iter, [c], 0⟩] scope pos) (U1f N.length js wi g tc te) := by
 intro pins s σ H Q I h
 rw [eval_ListComp]
 refine wpAny_comprehension_free (use := none) rfl hs S.clos S.kind S.loc (U0c S hd hi hex hg hc he I h (RR := fun acc ce r s' => compPost (model X.prog X.w) X.A X.xe none (EP X pins σ Q) acc ce.locals r s') ?_)
 intro D C s6 H5 mm I6 n6 f6 q
 exact ⟨mm, n6, fun h' sb => ⟨.ref D, H5, V3b I6 f6 sb, rfl, q⟩⟩
theorem V6f {elt target iter : Expr} {pos : Pos} {wi : TI} {g : TG} {te : TE} (S : U7 N F js scope X.N X.env) (hd : A1b X) (hi : PIH X target iter wi) (hex : X.ex = [])
   (hg : ∀ C s₀ H₀ ex pn, A1b (X.compF scope N F C s₀ H₀ ex pn) -> PG (X.compF scope N F C s₀ H₀ ex pn) target g)
   (he : ∀ C s₀ H₀ ex pn, A1b (X.compF scope N F C s₀ H₀ ex pn) -> PE (X.compF scope N F C s₀ H₀ ex pn) elt te)
   (hs : ∀ x, foldedSetIterable iter X.env x = pure x := by intro _; rfl) : PE X (.ListComp elt [⟨target, iter, [], 0⟩] scope pos) (V4j N.length js wi g te) := by
 intro pins s σ H Q I h
 rw [eval_ListComp]
 refine wpAny_comprehension_free (use := none) rfl hs S.clos S.kind S.loc (J5c S hd hi hex hg he I h (RR := fun acc ce r s' => compPost (model X.prog X.w) X.A X.xe none (EP X pins σ Q) acc ce.locals r s') ?_)
 intro D C s6 H5 mm I6 n6 f6 q
 exact ⟨mm, n6, fun h' sb => ⟨.ref D, H5, V3b I6 f6 sb, rfl, q⟩⟩
end
structure A1ab (N F : List Str) (sc : Scope) : Prop where
 kind : sc.kind = .function
 cell : ∀ y ∈ sc.names, y.2 ≠ .cell
 loc : ∀ y ∈ sc.names, y.2 = .local -> sc.names.lookup y.1 = some .local
 fr : ∀ y ∈ sc.names, y.2 = .free -> y.1 ∈ F
 nd : (N ++ F).Nodup
theorem U0f {sc : Scope} {env : Env} {F : List Str} (cell : ∀ y ∈ sc.names, y.2 ≠ .cell) (fr : ∀ y ∈ sc.names, y.2 = .free -> y.1 ∈ F) : ∀ y ∈ (relabel sc env).names, y.2 = .cell \/ y.2 = .free -> y.1 ∈ F := by
 intro y hy h
 obtain ⟨⟨n, k⟩, hm, e⟩ := List.mem_map.mp hy
 dsimp only at e
 split at e
 . rename_i hc
   subst e
   simp only [Bool.and_eq_true] at hc
   exact fr (n, k) hm (by simpa using hc.1.1)
 subst e
 rcases h with h | h
 . exact absurd h (cell (n, k) hm)
 exact fr (n, k) hm h
theorem U7.of1 {N : List Str} {x : Str} {j : Nat} {sc : Scope} {XN : List Str} {env : Env} (S : A1ab N [x] sc) (clos : closureFor sc env = pure (A8c [x] env)) (hj : XN[j]? = some x) (hc : ∃ c, env.cells.lookup x = some c) (hk : env.kindOf x = some .cell)
   (hr : (relabel sc env).names.lookup x = some .cell) : U7 N [x] [j] sc XN env :=
 ⟨S.kind, S.cell, S.loc, S.nd, clos, U0f S.cell S.fr, fun k y h => match k, h with
   | 0, h => by cases h; exact ⟨⟨j, rfl, hj⟩, hc, hk, hr⟩
   | k + 1, h => by simp at h, rfl⟩
theorem A8g (z : Str) : ∀ zs : List Str, inV (.str z) (zs.map V.str) = zs.contains z
 | [] => rfl
 | y :: zs => by
   show (eqV (.str y) (.str z) || inV (.str z) (zs.map V.str)) = _
   rw [A8g z zs, List.contains_cons]
   show ((y == z) || _) = _
   rw [BEq.comm]
theorem A1z : ∀ zs : List Str, (zs.map V.str).all C0d = true
 | [] => rfl
 | _ :: zs => A1z zs
theorem Y7g {K : Frag} {H : Hp} {σ σf : L2.St} {a : Addr} {zs : List Str} {f : Str -> Bool} {tc : TT} {te : TE} {Q : VK} (hl : ∀ H, SqT K H a (zs.map V.str)) (hz : zs.length <= 100)
   (ht : ∀ (z : Str) (H' : Hp) (Qb : Bool -> Hp -> Prop), C8 H H' -> Qb (f z) H' -> tc (some (.str z) :: σf) H' Qb) (he : ∀ (z : Str) (H' : Hp) (Qv : VK), Qv (.str z) H' -> te (some (.str z) :: σf) H' Qv)
   (k : ∀ D H', C8 H H' -> H D = none -> H' D = some (.lst ((zs.filter f).map V.str)) -> Q (.ref D) H') {js : List Nat} (hj : B7k js σ = σf) : U1f 1 js (iTup K (tC (.ref a))) (V3x 0) tc te σ H Q := by
 refine ⟨a, rfl, ⟨_, hl H⟩, fun D hD => ⟨zs.length, fun i ys H2 => i <= zs.length /\ ys = ((zs.take i).filter f).map V.str /\ H2 = upd H D (.lst ys), ⟨Nat.zero_le _, rfl, rfl⟩, ?_⟩⟩
 rintro i ys H2 ⟨hi, rfl, rfl⟩
 refine ⟨hi, A7, ?_⟩
 have sm : C8 H (upd H D (.lst (((zs.take i).filter f).map V.str))) := C8.upd hD
 have lz : (((zs.take i).filter f).map V.str).length <= 100 := by
   rw [List.length_map]
   exact Nat.le_trans (List.length_filter_le _ _) (by rw [List.length_take]; omega)
 by_cases hlt : i < zs.length
 . refine .inr ⟨hlt, ⟨_, V.str zs[i], hl _, by simp [hlt]⟩, fun x H3 y => ?_⟩
   obtain ⟨rfl, y⟩ := y
   have ex : x = V.str zs[i] := by
     have := y _ (hl _)
     simp [hlt] at this
     exact this.symm
   subst ex
   rw [hj]
   show tc (some (.str zs[i]) :: σf) _ _
   refine ht _ _ _ sm ?_
   have et : (zs.take (i + 1)).filter f = (zs.take i).filter f ++ (if f zs[i] then [zs[i]] else []) := by
     rw [List.take_succ_eq_append_getElem hlt, List.filter_append]
     congr 1
     cases hb : f zs[i] <;> simp [hb]
   cases hb : f zs[i] with
   | false =>
     refine V3 ⟨hlt, ?_, rfl⟩
     rw [et, hb]; simp
   | true =>
     refine Z5 (he _ _ _ ⟨A7, Nat.lt_of_le_of_lt lz (A0y (by decide)), hlt, ?_, ?_⟩)
     . rw [et, hb]; simp
     . rw [A0ja]
 have e : i = zs.length := by omega
 subst e
 refine .inl ⟨⟨_, hl _, by simp⟩, k D _ sm hD ?_⟩
 rw [List.take_length]
 exact A7
end L2
namespace L2
open PySem
section
variable {prog : Program} {w : World} {A : Around} {E : Value -> Shared -> Prop} {h : Heap} {g : Array GenState} {d : Drawn} {t : Nat} {os : OsState}
variable {nm q : Str} {C N : Addr} {bs bm bmB : List Value} {hdct : Bool} {sn : List Str} {sub : List Value} {ab : Bool} {col : Option Bool} {dd : Option Addr} {k0 k1 k2 k3 k5 : Option Value} {B newId initId : String}
theorem B6m (F : ExcBaseFacts B newId initId bmB) (T : OwnTail h bmB bm) {mN : Str -> Option Value} {rest : List Value} {fI : Addr} {oI : Obj} {Q : Fin -> Shared -> Prop}
   (hC : h.get? C = some (excClassObj nm q C N bs bm hdct sn sub ab col dd k0 k1 k2 k3 k5 newId)) (hn : h.Ns N mN) (hi : mN "__init__" = some (.ref fI))
   (hfI : h.get? fI = some oI) (hfc : oI.cls = .type "function")
   (hq : ∀ h' e, Heap.MadeExcOf h h' e (.ref C) rest ->
     wpAny (model prog w) A (call (.ref fI) (.ref e :: rest)) (fun r s' => r = .none /\ Q (.done (.ret (.ref e))) s') E ⟨h', g, d, t, os⟩) (hrest : rest.length <= sizeLine) :
   wpAny (model prog w) A (Builtin.«type.__call__» ⟨.ref C :: rest, []⟩) Q E ⟨h, g, d, t, os⟩ := by
 repeat (first | with_reducible refine wpAny_loadPart_at hC ?_ | with_reducible refine wpAny_madeBy_exc hC ?_ | wp_step)
 refine codeAny_call_builtin_code (Code.quiet_builtin _ F.quiet) (wpAny_check_new_subT F T hC ?_)
 refine codeAny_exc_new_subT F T hC ?_ hrest
 show wpAny _ _ _ _ _ _
 have hC₁ := Heap.get?_push_of_some { cls := .ref C, data := .fields #[.ref h.objs.size, .none, .none, .none, .bool false, .none] }
   (Heap.get?_push_of_some { cls := .type "tuple", data := .seq rest.toArray } hC)
 have hfI₁ := Heap.get?_push_of_some { cls := .ref C, data := .fields #[.ref h.objs.size, .none, .none, .none, .bool false, .none] }
   (Heap.get?_push_of_some { cls := .type "tuple", data := .seq rest.toArray } hfI)
 have hn₁ : ((h.push { cls := .type "tuple", data := .seq rest.toArray }).push { cls := .ref C, data := .fields #[.ref h.objs.size, .none, .none, .none, .bool false, .none] }).Ns N mN :=
   let ⟨o, es, ep, e, r⟩ := hn; ⟨o, es, ep, Heap.get?_push_of_some _ (Heap.get?_push_of_some _ e), r⟩
 have hget : ((h.push { cls := .type "tuple", data := .seq rest.toArray }).push
     { cls := .ref C, data := .fields #[.ref h.objs.size, .none, .none, .none, .bool false, .none] }).get? (h.objs.size + 1) = some
     { cls := .ref C, data := .fields #[.ref h.objs.size, .none, .none, .none, .bool false, .none] } := by heap_get
 have hcC : (Value.ref C :: bm).contains (.ref C) = true := by simp
 have T₁ := T.keeps (h' := (h.push { cls := .type "tuple", data := .seq rest.toArray }).push { cls := .ref C, data := .fields #[.ref h.objs.size, .none, .none, .none, .bool false, .none] })
   fun b o e => Heap.get?_push_of_some _ (Heap.get?_push_of_some _ e)
 unfold isInstance
 repeat (first | with_reducible refine wpAny_loadPart_at hget ?_ | (with_reducible refine wpAny_isSubtype_exc hC₁ ?_; rw [hcC]) | wp_step)
 show wpAny _ _ (typeLookup (.ref C) _) _ _ _
 refine wpAny_typeLookup_tail hC₁ hn₁ T₁ F.mroIs F.init.lookup ?_
 rw [hi]
 refine wpAny_holding (wpAny_bind ?_)
 unfold bindSpecial
 refine wpAny_bind (wpAny_typeOf (T := "function") ⟨_, hfI₁, hfc⟩ ?_)
 rw [if_pos (by decide)]
 refine wpAny_pure (wpAny_bind (wpAny_mono (hq _ (h.objs.size + 1) ⟨fun b o hb => Heap.get?_push_of_some _ (Heap.get?_push_of_some _ hb), Heap.get?_none_of_le (Nat.le_succ _), h.objs.size, hget, Heap.get?_none_of_le (Nat.le_refl _), ?_⟩) (fun r s' hr => ?_) fun _ _ x => x))
 . exact Heap.get?_push_of_some _ (Heap.get?_push_at rfl rfl)
 obtain ⟨rfl, hQ⟩ := hr
 wp_walk
 exact hQ
theorem C9f (F : ExcBaseFacts B newId initId bmB) (T : OwnTail h bmB bm) {mN : Str -> Option Value} {rest : List Value} {fI : Addr} {oI : Obj} {Q : Value -> Shared -> Prop}
   (hC : h.get? C = some (excClassObj nm q C N bs bm hdct sn sub ab col dd k0 k1 k2 k3 k5 newId)) (hn : h.Ns N mN) (hi : mN "__init__" = some (.ref fI))
   (hfI : h.get? fI = some oI) (hfc : oI.cls = .type "function")
   (hq : ∀ h' e, Heap.MadeExcOf h h' e (.ref C) rest ->
     wpAny (model prog w) (A.under (.builtin "type.__call__" ⟨.ref C :: rest, []⟩)) (call (.ref fI) (.ref e :: rest)) (fun r s' => r = .none /\ Q (.ref e) s') E ⟨h', g, d, t, os⟩) (hrest : rest.length <= sizeLine) :
   wpAny (model prog w) A (call (.ref C) rest) Q E ⟨h, g, d, t, os⟩ := by
 have f1 := tc_lookup
 have f2 := tc_bind (.ref C)
 have hT : (⟨h, g, d, t, os⟩ : Shared).TypeIs (.ref C) "type" := ⟨_, hC, rfl⟩
 refine wpAny_call (codeAny_of_tree ?_)
 show wpAny _ _ (callAny (.ref C) _) _ _ _
 repeat (any_goals (first | assumption | with_reducible refine wpAny_loadPart_at hC ?_ | wp_step))
 refine ⟨rfl, ?_⟩
 refine codeAny_call_builtin_at (Code.quiet_builtin _ (by decide +kernel)) entry_typeCall (wpAny_check_type_call_sub hC (B6m (hrest := hrest) F T hC hn hi hfI hfc fun h' e hm => ?_))
 exact hq h' e hm
end
section
variable {M : Model} {prog : Program} {w : World} {A : Around} {E : Value -> Shared -> Prop} {s : Shared} {env : Env}
variable {nm q : Str} {C N : Addr} {bs bm bmB : List Value} {hdct : Bool} {sn : List Str} {sub : List Value} {ab : Bool} {col : Option Bool} {dd : Option Addr} {k0 k1 k2 k3 k5 : Option Value} {B newId initId : String}
theorem B1h {x : Sem Value} {Q : Flow -> Shared -> Prop} (hbase : bm.contains (.type "BaseException") = true) (hh : A.handled = none)
   (h : wpAny M A x (fun v s₁ => ∃ e t de, v = .ref e /\ s₁.heap.get? C = some (excClassObj nm q C N bs bm hdct sn sub ab col dd k0 k1 k2 k3 k5 newId) /\
     s₁.heap.get? e = some { cls := .ref C, dict := de, data := .fields #[.ref t, .none, .none, .none, .bool false, .none] } /\ E (.ref e) s₁) E s) :
   wpAny M A (raiseStmt env (some x) none) Q E s := by
 have hcB : (Value.ref C :: bm).contains (.type "BaseException") = true := by rw [List.contains_cons, hbase, Bool.or_true]
 unfold raiseStmt
 refine wpAny_bind (wpAny_mono h (fun v s₁ h₁ => ?_) fun _ _ x => x)
 obtain ⟨e, t, de, rfl, hC, he, hE⟩ := h₁
 obtain ⟨hp, g, d, tk, os⟩ := s₁
 repeat (first | with_reducible refine wpAny_loadPart_at he ?_ | with_reducible refine wpAny_loadPart_at hC ?_ | (with_reducible refine wpAny_isSubtype_exc hC ?_; rw [hcB]) | wp_step)
 exact wpAny_raiseNew_none hh hE
theorem C1p (F : ExcBaseFacts B newId initId bmB) {mN : Str -> Option Value} {x : Str} {np cpos pos : Pos} {args : List Expr} {Q : Flow -> Shared -> Prop} {fI : Addr} {oI : Obj}
   (hbase : bm.contains (.type "BaseException") = true) (hh : A.handled = none) (hplain : (backTo cpos (starEach args env)).any (·.1) = false) (hi : mN "__init__" = some (.ref fI)) (hfc : oI.cls = .type "function")
   (h : wpAny (model prog w) A (eval (.Name x np) env) (fun f s₁ => f = .ref C /\ wpAny (model prog w) A (evalArgs (.ref C) true (backTo cpos (starEach args env)) [])
     (fun a s₂ => a.kw = [] /\ a.pos.length <= sizeLine /\ s₂.heap.get? C = some (excClassObj nm q C N bs bm hdct sn sub ab col dd k0 k1 k2 k3 k5 newId) /\ s₂.heap.Ns N mN /\ OwnTail s₂.heap bmB bm /\ s₂.heap.get? fI = some oI /\
       ∀ h' e, Heap.MadeExcOf s₂.heap h' e (.ref C) a.pos -> wpAny (model prog w) (A.under (.builtin "type.__call__" ⟨.ref C :: a.pos, []⟩)) (call (.ref fI) (.ref e :: a.pos))
         (fun r s₃ => r = .none /\ s₃.heap.get? C = some (excClassObj nm q C N bs bm hdct sn sub ab col dd k0 k1 k2 k3 k5 newId) /\ (∃ t de, s₃.heap.get? e = some { cls := .ref C, dict := de, data := .fields #[.ref t, .none, .none, .none, .bool false, .none] }) /\ E (.ref e) s₃) E { s₂ with heap := h' }) E s₁) E s) :
   wpAny (model prog w) A (exec (.Raise (some (.Call (.Name x np) args [] cpos)) none pos) env) Q E s := by
 rw [arm_exec_Raise]
 first
   | refine wpAny_bind (wpAny_standAt (B1h (C := C) (nm := nm) (q := q) (N := N) (bs := bs) (bm := bm) (hdct := hdct) (sn := sn) (sub := sub) (ab := ab) (col := col) (dd := dd) (k0 := k0) (k1 := k1) (k2 := k2) (k3 := k3) (k5 := k5) (newId := newId) hbase hh (wpAny_bind (wpAny_mono (wpAny_Call_ofName (wpAny_mono h (fun f s₁ h₁ => ?_) fun _ _ x => x)) (fun v s₃ h₃ => wpAny_bind (wpAny_standAt (wpAny_pure h₃))) fun _ _ x => x))))
   | (simp only [evalOpt, Option.map]; refine wpAny_bind (wpAny_standAt (B1h (C := C) (nm := nm) (q := q) (N := N) (bs := bs) (bm := bm) (hdct := hdct) (sn := sn) (sub := sub) (ab := ab) (col := col) (dd := dd) (k0 := k0) (k1 := k1) (k2 := k2) (k3 := k3) (k5 := k5) (newId := newId) hbase hh (wpAny_bind (wpAny_mono (wpAny_Call_ofName (wpAny_mono h (fun f s₁ h₁ => ?_) fun _ _ x => x)) (fun v s₃ h₃ => wpAny_bind (wpAny_standAt (wpAny_pure h₃))) fun _ _ x => x)))))
 obtain ⟨rfl, h₁⟩ := h₁
 unfold callWith
 refine wpAny_bind (wpAny_holding (wpAny_mono h₁ (fun a s₂ h₂ => wpAny_bind (wpAny_standAt ?_)) fun _ _ x => x))
 obtain ⟨apos, akw⟩ := a
 obtain ⟨hkw, hlen, hC, hn, T, hf, h₂⟩ := h₂
 obtain rfl : akw = [] := hkw
 obtain ⟨hp, g, d, tk, os⟩ := s₂
 simp only [hplain]
 refine wpAny_bind (wpAny_keeperOf_exc hC ?_)
 refine wpAny_bind (C9f F T hC hn hi hf hfc (fun h' e hm => wpAny_mono (h₂ h' e hm) (fun r s₃ z => ⟨z.1, wpAny_bind (wpAny_holding (wpAny_point (wpAny_pure ?_)))⟩) fun _ _ x => x) hlen)
 obtain ⟨_, hC3, ⟨t, de, he⟩, hE⟩ := z
 exact ⟨e, t, de, rfl, hC3, he, hE⟩
end
end L2
namespace L2
open PySem PySem.Spec PyProof.Rows PySem.W
abbrev V3t : List Value := [.type "ValueError", .type "Exception", .type "BaseException", .type "object"]
structure V8b (K : Frag) (C fI : Addr) : Prop where
 cls : ∃ nm q N bs bm sn sub ab col dd k0 k1 k2 k3 k5, K.lookup C = some (excClassObj nm q C N bs bm true sn sub ab col dd k0 k1 k2 k3 k5 "ValueError.__new__") /\ nsOkIn K N = true /\ nsIn K N "__init__" = some (some (.ref fI)) /\ tailIn K V3t bm = true
 fn : ∃ o, K.lookup fI = some o /\ o.cls = .type "function"
 sa : findIn K (.ref C) "__setattr__" = some (some (.builtin "object.__setattr__"))
 ob : mroIn K C (.type "object") = some true
theorem U0r {K : Frag} {h : Heap} {N : Addr} {mg : Str -> Option Value} {n : Str} {v : Value} (X : K.In h) (G : h.Ns N mg) (e : nsIn K N n = some (some v)) : mg n = some v := by
 obtain ⟨o, es, ep, ho, hd, _, hf⟩ := G
 unfold nsIn at e
 split at e
 . rename_i c d es' n' sl q
   have := X _ _ q
   rw [ho] at this
   cases this
   cases hd
   split at e
   . rename_i en he
     cases e
     rw [<- hf]
     unfold nsFind findBy
     rw [<- Array.find?_toList, he]
     rfl
   . split at e <;> cases e
 cases e
theorem C6n {h : Heap} (self : Value) : ∀ {l : List Value}, OwnTail h V3t l -> refuseLoop self "__setattr__" l = pure ()
 | _, .base => PySem.F.store_ValueError.passes self
 | _, .own _ _ _ t => by rw [refuseLoop_ref]; exact C6n self t
section
variable {prog : Program} {w : World} {A : Around} {s : Shared} {K : Frag} {C e fI : Addr} {t : Addr} {R : Result -> Shared -> Prop} {name : Str} {tk : Tok} {v : Value}
theorem A0gd (X : K.In s.heap) (F : V8b K C fI) (he : s.heap.get? e = some (A3g (.ref C) t none .none)) (ht : findIn K (.ref C) name = some none)
   (h : ∀ h' tk' d, (∀ b ob, b ≠ e -> s.heap.get? b = some ob -> h'.get? b = some ob) -> h'.get? e = some (A3g (.ref C) t (some d) .none) -> h'.Ns1 d (fun y => if y = name then some v else none) -> s.heap.get? d = none -> d ≠ e ->
     R (.ok (.ret .none)) { s with heap := h', toks := tk' }) :
   codeAny (model prog w) A (.call (.builtin "object.__setattr__") ⟨[.ref e, .str name tk, v], []⟩) R s := by
 have SF := PySem.F.store_object
 obtain ⟨nm, q, N, bs, bm, sn, sub, ab, col, dd, k0, k1, k2, k3, k5, lC, nO, nI, tl⟩ := F.cls
 have hC := X _ _ lC
 have I : PySem.W.InstAt s.heap e (A3g (.ref C) t none .none) C none := ⟨he, rfl, rfl, trivial⟩
 have hc : clsIn K C = some { name := nm, bases := bs, mro := .ref C :: bm, ns := N, qualname := q, hasDict := true, slotNames := sn, subclasses := sub, abstract := ab, collection := col, hasDel := false } := by
   unfold clsIn
   rw [lC]
 have sub' : Looks (model prog w) s.heap (isInstance (.ref e) (.type "object")) true := I.type.andThen (looks_mroIn X F.ob)
 refine codeAny_call_builtin SF.slot.plain SF.entry (@check_slot (model prog w) _ _ s "object.__setattr__" "object" "__setattr__" (.ref e) [.str name tk, v] [] _ SF.kind SF.split sub' (SF.args (.ref e) (.str name tk) v) ?_)
 have hm : Looks (model prog w) s.heap (mroOf (.ref C)) (.ref C :: bm) := (looks_clsIn X hc).andThen .now
 have L3 : Looks (model prog w) s.heap (Builtin.ObjectAttr.storeTaker? none) none := .now
 rw [osa_eq, refuse_eq]
 refine wpAny_bind (wpAny_bind (I.type.here (wpAny_bind (hm.here ?_))))
 rw [refuseLoop_ref, C6n _ (tail_of_in X tl)]
 refine wpAny_pure (wpAny_bind (I.type.here (wpAny_bind ((looks_findIn X ht).here (wpAny_bind (L3.here ?_))))))
 dsimp only
 refine wpAny_bind (wpAny_pure (wpAny_bind (wpAny_bind (wpAny_loadPart he (wpAny_bind (PySem.W.Looks.here (PySem.W.looks_clsIn X hc) ?_))))))
 have hx₁ : (s.heap.push { cls := .type "dict", data := .dict #[] }).get? e = some (A3g (.ref C) t none .none) := Heap.get?_push_of_some _ he
 have hxs : e ≠ s.heap.objs.size := Nat.ne_of_lt (Heap.lt_size he)
 show wpAny (model prog w) A.in1 (do
     let d <- alloc { cls := Value.type "dict", data := Data.dict #[] }
     update e fun o => { cls := o.cls, dict := some d, data := o.data, slots := o.slots }
     pure (some d)) _ _ _
 refine wpAny_bind (wpAny_alloc' ?_)
 refine wpAny_bind (wpAny_update' hx₁ ?_)
 refine wpAny_pure ?_
 have hgd : ((s.heap.push { cls := .type "dict", data := .dict #[] }).update e fun o => { cls := o.cls, dict := some s.heap.objs.size, data := o.data, slots := o.slots }).get? s.heap.objs.size
     = some { cls := .type "dict", data := .dict #[] } :=
   (Heap.get?_update_ne _ _ _ _ hxs.symm).trans (Heap.get?_push_at rfl rfl)
 have hnd : ((s.heap.push { cls := .type "dict", data := .dict #[] }).update e fun o => { cls := o.cls, dict := some s.heap.objs.size, data := o.data, slots := o.slots }).Ns s.heap.objs.size (fun _ => none) :=
   ⟨_, #[], _, hgd, rfl, fun e he => absurd he (by simp), fun _ => rfl⟩
 show wpAny _ _ (Builtin.ObjectAttr.storeInDict s.heap.objs.size (.str name tk) name v) _ _ _
 unfold Builtin.ObjectAttr.storeInDict Builtin.ObjectAttr.newKeyGuard
 refine wpAny_bind (wpAny_pure (wpAny_bind (wpAny_nsSet1 (Heap.Ns1.of_empty hnd) fun h' hn' hs => ?_)))
 obtain ⟨oD, esD, epD, hoD, hdD, hcD⟩ := hn'.count (Within.cons name v Within.nil)
 refine wpAny_bind (wpAny_lookBehind hoD (by rw [hdD]; exact pastItsLine_dict (Nat.le_trans hcD (by rw [List.length_cons, List.length_nil, sizeLine_eq]; omega))) ?_)
 have hx' : h'.get? e = some (A3g (.ref C) t (some s.heap.objs.size) .none) := (hs.2 e hxs).trans (Heap.get?_update_self _ hx₁ rfl)
 refine wpAny_pure (h h' _ s.heap.objs.size (fun b ob hbx hb => ?_) hx' hn' (Heap.get?_none_of_le (Nat.le_refl _)) hxs.symm)
 exact (hs.2 b (Nat.ne_of_lt (Heap.lt_size hb))).trans ((Heap.get?_update_ne _ _ _ _ hbx).trans (Heap.get?_push_of_some _ hb))
end
def A5g (e C t : Addr) (d : Option Addr) : Heap -> Prop := fun h => h.get? e = some (A3g (.ref C) t d .none)
theorem Y5c {P : Program} {w : World} {H : Hp} {h : Heap} {e C t : Addr} {d : Option Addr} (q : h.get? e = some (A3g (.ref C) t d .none)) : A0g P w H h e (.ext (A5g e C t d)) :=
 ⟨q, ⟨_, q⟩, fun _ _ z k => k _ z⟩
section
variable {X : Cx} {pins : List (Addr × Obj)} {σ : St} {H : Hp} {s : Shared}
theorem Inv.trackO {a : Addr} {ho : HO} (I : Inv X pins σ H s) (n : Nw X pins H a) (ok : A0g X.prog X.w (upd H a ho) s.heap a ho) : Inv X pins σ (upd H a ho) s := by
 have ne : ∀ b u, H b = some u -> b ≠ a := fun b u z q => by rw [q, n.un] at z; cases z
 have up : ∀ b, b ≠ a -> upd H a ho b = H b := fun b hb => G6 hb
 refine ⟨I.ok, I.os, I.bare, ⟨I.base.keep, I.base.slot, fun b u z m hx => ?_, I.base.there, fun b xs z => ?_, fun b u v z => ?_, fun b ps z => ?_⟩, I.loc, I.cell, ?_, fun x c z => ?_, fun p hp => ?_, fun b u z => ?_, I.len⟩
 . rw [up b fun q => by rw [q, n.old] at z; cases z]
   exact I.base.free b u z m hx
 . have := I.base.tups b xs z
   rw [up b (ne b _ this)]; exact this
 . have := I.base.frzs b u v z
   rw [up b (ne b _ this)]; exact this
 . obtain ⟨more, this⟩ := I.base.tbls b ps z
   exact ⟨more, by rw [up b (ne b _ this)]; exact this⟩
 . rw [up _ (Ne.symm n.loc)]; exact I.free
 . rw [up _ (n.cell x c z)]; exact I.freeC x c z
 . obtain ⟨q1, q2, q3⟩ := I.pin p hp
   exact ⟨q1, by rw [up _ (n.pin p hp)]; exact q2, q3⟩
 by_cases hb : b = a
 . subst hb
   rw [A7] at z
   cases z
   exact ok
 rw [up b hb] at z
 exact (I.hok b u z).stay (fun _ _ _ q => q) (fun c q => by rw [up c (ne c _ q)]; exact q) (fun c xs q => by rw [up c (ne c _ q)]; exact q)
def rem (H : Hp) (a : Addr) : Hp := fun b => if b = a then none else H b
theorem C8h {a : Addr} : rem H a a = none := by unfold rem; rw [if_pos rfl]
theorem A8e {a b : Addr} (h : b ≠ a) : rem H a b = H b := by unfold rem; rw [if_neg h]
theorem Inv.forget {a : Addr} {φ : Heap -> Prop} (I : Inv X pins σ H s) (e : H a = some (.ext φ)) : Inv X pins σ (rem H a) s := by
 have ne : ∀ b u, H b = some u -> (∀ φ, u ≠ .ext φ) -> b ≠ a := fun b u z q w => by rw [w, e] at z; cases z; exact q _ rfl
 have non : ∀ b, H b = none -> rem H a b = none := fun b z => by
   by_cases q : b = a
   . rw [q]; exact C8h
   . rw [A8e q]; exact z
 refine ⟨I.ok, I.os, I.bare, ⟨I.base.keep, I.base.slot, fun b u z m hx => non b (I.base.free b u z m hx), I.base.there, fun b xs z => ?_, fun b u v z => ?_, fun b ps z => ?_⟩, I.loc, I.cell, non _ I.free, fun x c z => non _ (I.freeC x c z), fun p hp => ?_, fun b u z => ?_, I.len⟩
 . have := I.base.tups b xs z
   rw [A8e (ne b _ this (fun _ q => nomatch q))]; exact this
 . have := I.base.frzs b u v z
   rw [A8e (ne b _ this (fun _ q => nomatch q))]; exact this
 . obtain ⟨more, this⟩ := I.base.tbls b ps z
   exact ⟨more, by rw [A8e (ne b _ this (fun _ q => nomatch q))]; exact this⟩
 . obtain ⟨q1, q2, q3⟩ := I.pin p hp
   exact ⟨q1, non _ q2, q3⟩
 have hb : b ≠ a := fun q => by rw [q, C8h] at z; cases z
 rw [A8e hb] at z
 exact (I.hok b u z).stay (fun _ _ _ q => q) (fun c q => by rw [A8e (ne c _ q (fun _ w => nomatch w))]; exact q) (fun c xs q => by rw [A8e (ne c _ q (fun _ w => nomatch w))]; exact q)
end
def A0yv (C : Addr) (ta tv : TE) (f : Str) : TS := fun D σ H => tv σ H fun y H1 => ta σ H1 fun x H2 => ∃ e t, x = .ref e /\ H2 e = some (.ext (A5g e C t none)) /\
 ∀ d, H2 d = none -> d ≠ e -> D.nx σ (upd (upd H2 e (.ext (A5g e C t (some d)))) d (.xd [(f, y)]))
section
variable {X : Cx} {o value : Expr} {f : Str} {pos pos' : Pos} {ta tv : TE} {C fI : Addr}
theorem A0hx (F : V8b X.K C fI) (hf : findIn X.K (.ref C) f = some none) (ha : PE X o ta) (hv : PE X value tv) (hs : swapsWith value (some (.Attribute o f pos')) pos.line X.env = pure false) (hex : X.ex = [] := by rfl) :
   PS X (.Assign [.Attribute o f pos'] value pos) (A0yv C ta tv f) := by
 intro pins s σ H D I h
 refine plainObj_wpAny_Assign_Attribute (thn (hv pins s σ H _ I h) fun u s1 ⟨y, H1, I1, ry, q⟩ => thn (ha pins s1 σ H1 _ I1 q) fun ov s2 ⟨x, H2, I2, rx, e, t, ex, ea, q2⟩ => ?_) hs
 subst ex
 obtain rfl : ov = Value.ref e := rx
 have he : s2.heap.get? e = some (A3g (.ref C) t none .none) := (I2.hok e _ ea).1
 refine set_plain I2.kIn (⟨he, rfl, rfl, trivial⟩ : PySem.W.InstAt s2.heap e (A3g (.ref C) t none .none) C none) F.sa (A0gd (s := { s2 with toks := s2.toks + 1 }) I2.kIn F he hf fun h' tk' d k1 k2 k3 k4 k5 => ?_)
 have nd : H2 d = none := I2.hok.new k4
 have I3 : Inv X pins σ (upd H2 e (.ext (A5g e C t (some d)))) { s2 with heap := h', toks := tk' } :=
   I2.write (x := e) (e := e) (by rw [ea]; exact trivial) (.inl rfl) (fun b u hb z => k1 b u hb z) ⟨_, k2⟩ (Y5c k2)
 have nw : Nw X pins (upd H2 e (.ext (A5g e C t (some d)))) d := I2.nw hex k4 (by rw [G6 k5]; exact nd)
 refine ⟨σ, _, I3.trackO (ho := .xd [(f, y)]) nw ⟨_, k3, fun g => ?_⟩, q2 d nd k5⟩
 show C7g (List.lookup g [(f, y)]) (if g = f then some u else none)
 by_cases z : g = f
 . rw [if_pos z, z]
   have : List.lookup f [(f, y)] = some y := by simp [List.lookup]
   rw [this]; exact ry
 rw [if_neg z]
 have : List.lookup g [(f, y)] = none := by
   have hb : (g == f) = false := beq_eq_false_iff_ne.mpr z
   simp [List.lookup, hb]
 rw [this]; exact trivial
end
def G1e (C : Addr) (f : Str) : Sp := fun vs H Q _ => ∃ e t v, vs = [.ref e, v] /\ H e = some (.ext (A5g e C t none)) /\ ∀ d, H d = none -> d ≠ e -> Q .non (upd (upd H e (.ext (A5g e C t (some d)))) d (.xd [(f, v)]))
def A0gr (C : Addr) (f : Str) (EH : EK) (t : TA) : TS := fun _ σ H => t σ H fun vs H1 => ∃ v, vs = [v] /\ ∀ d H2, C8 H1 H2 -> H1 d = none -> H2 d = some (.xd [(f, v)]) -> EH (.ref C) (some d) σ H2
section
variable {X : Cx} {x f : Str} {p cpos pos : Pos} {e : Expr} {t : TA} {C fI : Addr} {fdI : FuncData} {ps : List Str} {EH : EK} {j k : Nat}
theorem V5s (hm : X.mg x = some (.ref C)) (F : V8b X.K C fI) (G : A8 X.prog X.w X.K X.mg X.base CX0 j fI fdI ps (G1e C f)) (bI : Binds X.K fdI ps []) (hr : A0m k X.A) (hx : U1 X EH) (ha : PA X [e] t) (hj : j + 1 <= k := by decide) (hg : Gl X x := by rfl) (hex : X.ex = [] := by rfl)
   (hdb : (x == ("__debug__" : Str)) = false := by decide) (he : starEach [e] X.env = (false, eval e X.env) :: starEach [] X.env := by rfl) (hpl : (backTo cpos (starEach [] X.env)).any (·.1) = false := by rfl) :
   PS X (.Raise (some (.Call (.Name x p) [e] [] cpos)) none pos) (A0gr C f EH t) := by
 intro pins s σ H D I h
 obtain ⟨nm, q, N, bs, bm, sn, sub, ab, col, dd, k0, k1, k2, k3, k5, lC, nO, nI, tl⟩ := F.cls
 obtain ⟨oI, lI, cI⟩ := F.fn
 have T0 : OwnTail X.base V3t bm := tail_of_in I.ok.mod.kin tl
 have hN0 : X.base.Ns N (X.base.nsMap N) := .of_isNs (isNs_of_in I.ok.mod.kin nO)
 have hi0 : X.base.nsMap N "__init__" = some (.ref fI) := U0r I.ok.mod.kin hN0 nI
 refine C1p (C := C) (nm := nm) (q := q) (N := N) (bs := bs) (bm := bm) (hdct := true) (sn := sn) (sub := sub) (ab := ab) (col := col) (dd := dd) (k0 := k0) (k1 := k1) (k2 := k2) (k3 := k3) (k5 := k5) (oI := oI) PySem.F.excBase_ValueError (mN := X.base.nsMap N) (T0.hasType PySem.F.excBase_ValueError.hasBase) hr.hd
   (by rw [he]; show (false || (backTo cpos (starEach [] X.env)).any (·.1)) = false; rw [hpl]; rfl) hi0 cI (A3n I hg hm ⟨rfl, ?_⟩ hdb)
 have ha' := ha cpos pins s σ H _ I h
 rw [he] at ha' ⊢
 refine Calls.evalArgs_plain (wpAny_mono ha' (fun us s2 ⟨vs, H1, I1, r, v, ev, z⟩ => ?_) fun _ _ y => y)
 subst ev
 obtain ⟨u, rfl, ru⟩ := r.one
 refine ⟨rfl, D7 (by show 1 <= 1000; decide), I1.kIn _ _ lC, hN0.keeps I1.bk, T0.keeps I1.bk, I1.kIn _ _ lI, fun h' a m => ?_⟩
 obtain ⟨t', e1, tn, e2⟩ := m.there
 have I2 : Inv X pins σ H1 { s2 with heap := h' } := I1.kept (t' := s2.toks) m.keeps
 have na : H1 a = none := I1.hok.new m.new
 have I3 := I2.trackO (ho := .ext (A5g a C t' none)) (I1.nw hex m.new na) (Y5c e1)
 have sp0 : G1e C f [.ref a, v] (upd H1 a (.ext (A5g a C t' none))) (fun v0 H' => v0 = .non /\ ∃ d, H1 d = none /\ d ≠ a /\ H' = upd (upd (upd H1 a (.ext (A5g a C t' none))) a (.ext (A5g a C t' (some d)))) d (.xd [(f, v)])) E0 :=
   ⟨a, t', v, rfl, A7, fun d nd nda => ⟨rfl, d, by rw [G6 nda] at nd; exact nd, nda, rfl⟩⟩
 have rr : U2 [.ref a, v] [.ref a, u] := .cons rfl (.cons ru .nil)
 have hl : ([Value.ref a, u] ++ []).length = ps.length := by
   have := G.len _ _ _ _ sp0
   rw [<- this]; rfl
 refine wpAny_call (codeAny_mono (G.run _ X.stack _ _ ⟨[.ref a, u], []⟩ ([.ref a, u] ++ []) [.ref a, v] _ E0 ((hr.mono hj).make C [u] []) (I3.env0.make C [u] []) (bI _ [.ref a, u] I3.kIn hl) rr sp0) fun r s' hq => ?_)
 cases r with
 | error e => exact hq.elim
 | ok fl =>
   cases fl with
   | ret u0 =>
     obtain ⟨v0, H', I4, rv, ev, d, nd, nda, eH⟩ := I3.after hq
     subst ev eH
     have ea : (upd (upd (upd H1 a (.ext (A5g a C t' none))) a (.ext (A5g a C t' (some d)))) d (.xd [(f, v)])) a = some (.ext (A5g a C t' (some d))) := by
       rw [G6 (Ne.symm nda), A7]
     have g1 : s'.heap.get? a = some (A3g (.ref C) t' (some d) .none) := (I4.hok a _ ea).1
     refine ⟨rv, I4.kIn _ _ lC, ⟨t', some d, g1⟩, ?_⟩
     refine hx pins σ _ s' a t' (.ref C) (some d) (I4.forget ea) ⟨I1.nw hex m.new C8h, .none, g1, .inl rfl, fun T z => nomatch z⟩ (z d _ (fun b ob q => ?_) nd ?_)
     . have nb : b ≠ a := G7 q na
       have nbd : b ≠ d := G7 q nd
       rw [A8e nb, G6 nbd, G6 nb, G6 nb]
       exact q
     . rw [A8e nda, A7]
   | next => exact hq.elim
   | brk => exact hq.elim
   | cont => exact hq.elim
end
section
variable {X : Cx} {e : Expr} {f : Str} {pos : Pos} {ta : TE}
end
section
variable {X : Cx}
end
section
variable {X : Cx}
def A0xp : V -> List V -> Hp -> VK -> Prop := fun x vs H Q => ∃ i, x = .int i /\ vs = [] /\ Q (.int ((Builtin.Int.intBits i : Nat) : Int)) H
theorem B6r : MtR X "int.bit_length" A0xp := by
 intro pins s σ H x xs v us Q I rx rs h
 obtain ⟨i, rfl, rfl, q⟩ := h
 obtain ⟨t, rfl⟩ := rx
 cases rs
 exact call_int_bit_length ⟨.int _, H, I.tok _, ⟨_, rfl⟩, q⟩
end
section
variable {X : Cx} {a b : Expr} {rest : List Expr} {pos : Pos} {ta tb : TE}
end
section
variable {X : Cx} {j k : Nat} {f C : Addr} {fd : FuncData} {ps : List Str} {sp : Sp} {dvs : List V} {ds : List Value} {x m : Str} {p pos apos : Pos} {e o : Expr} {es : List Expr} {ta : TE} {t : TA} {st : Stmt}
theorem A0hb {pins : List (Addr × Obj)} {σ : St} {H : Hp} {s : Shared} {Q : VK} {us : List Value} {vs : List V} (F : A8 X.prog X.w X.K X.mg X.base (CX1 X.prog X.w) k f fd ps sp) (hr : A0m k X.A) (hb : Binds X.K fd ps ds) (hd : U2 dvs ds)
   (I : Inv X pins σ H s) (r : U2 vs us) (h : sp (vs ++ dvs) H Q (fun C d H' => EKF C d σ H')) : wpAny (model X.prog X.w) X.A (call (.ref f) us) (EP X pins σ Q) X.xe s := by
 have r2 : U2 (vs ++ dvs) (us ++ ds) := r.append hd
 have hl : (us ++ ds).length = ps.length := by rw [<- r2.length]; exact F.len _ _ _ _ h
 refine wpAny_call (codeAny_mono (F.run X.A X.stack s H ⟨us, []⟩ (us ++ ds) (vs ++ dvs) Q _ hr I.env0 (hb s us I.kIn hl) r2 h) fun r s' hq => ?_)
 cases r with
 | error e =>
   obtain ⟨a, t, C, dd, H', _, _, _, _, _, hE, _⟩ := hq
   exact False.elim hE
 | ok fl =>
   cases fl with
   | ret u => exact I.after hq
   | next => exact False.elim hq
   | brk => exact False.elim hq
   | cont => exact False.elim hq
theorem Y7v (D : Def X.K X.mg x ps st f fd) (F : A8 X.prog X.w X.K X.mg X.base (CX1 X.prog X.w) j f fd ps sp) (hr : A0m k X.A) (ha : PA X (e :: es) t) (hj : j <= k := by decide) (hg : Gl X x := by rfl) (hdb : (x == ("__debug__" : Str)) = false := by decide)
   (he : starEach (e :: es) X.env = (false, eval e X.env) :: starEach es X.env := by rfl) (hpl : (backTo pos (starEach es X.env)).any (·.1) = false := by rfl) : PE X (.Call (.Name x p) (e :: es) [] pos) (C9c sp [] EKF t) := by
 intro pins s σ H Q I h
 refine wpAny_Call_Name_kw (A3n I hg D.g ?_ hdb)
 refine PySem.W.callWith_K (h₀ := X.base) I.ok.mod.kin D.F.kp (thn (ha pos pins s σ H _ I h) fun us s1 ⟨vs, H1, I1, r, q⟩ => ⟨I1.kIn, ?_⟩) he hpl
 exact A0hb (F.mono hj) hr D.b .nil I1 r q
end
section
variable {X : Cx} {N F : List Str} {js : List Nat} {scope : Scope}
end
section
variable {X : Cx} {pins : List (Addr × Obj)} {σ : St} {H : Hp} {s : Shared} {h' : Heap}
end
section
variable {X : Cx} {es : List Expr} {k : Nat} {tp : Pos}
end
def Exc1 (D : Addr) (H H' : Hp) : Prop := ∀ b o, H b = some o -> b ≠ D -> H' b = some o
theorem B5j {J : It} {g : TG} {te : TE} {σ0 : St} {H1 : Hp} {QD : Addr -> Hp -> Prop} {n : Nat} (R : Nat -> V -> Hp -> Prop) (hn : n <= 1000)
   (mono : ∀ i y H' H'' D l, R i y H' -> H' D = some (.lst l) -> Exc1 D H' H'' -> R i y H'')
   (step : ∀ i H2 Qy, i < n -> C8 H1 H2 -> (∀ y H6, C8 H2 H6 -> R i y H6 -> Qy y H6) -> J.go i H2 /\ ∀ x H3, J.yld i H2 x H3 -> g x σ0 H3 fun σ4 H4 => te σ4 H4 Qy)
   (stop : ∀ H2, C8 H1 H2 -> J.stop n H2)
   (k : ∀ D H' ys, C8 H1 H' -> H1 D = none -> H' D = some (.lst ys) -> ys.length = n -> (∀ i y, ys[i]? = some y -> R i y H') -> QD D H') : ∀ D, H1 D = none ->
   ∃ (m : Nat) (W : Nat -> List V -> Hp -> Prop), W 0 [] (upd H1 D (.lst [])) /\ ∀ i ys H2, W i ys H2 -> i <= m /\ H2 D = some (.lst ys) /\ ((J.stop i H2 /\ QD D H2) \/ (i < m /\ J.go i H2 /\ ∀ x H3, J.yld i H2 x H3 ->
     g x σ0 H3 fun σ4 H4 => te σ4 H4 fun y H6 => H6 D = some (.lst ys) /\ ys.length < sizeLine /\ W (i + 1) (ys ++ [y]) (upd H6 D (.lst (ys ++ [y]))))) := by
 intro D hD
 refine ⟨n, fun i ys H2 => i <= n /\ ys.length = i /\ H2 D = some (.lst ys) /\ C8 H1 H2 /\ ∀ j y, ys[j]? = some y -> R j y H2, ⟨Nat.zero_le _, rfl, A7, C8.upd hD, fun j y h => by simp at h⟩, ?_⟩
 rintro i ys H2 ⟨hi, hl, hd, sm, hR⟩
 refine ⟨hi, hd, ?_⟩
 by_cases hlt : i < n
 . refine .inr ⟨hlt, step i H2 _ hlt sm fun y H6 s6 r6 => ?_⟩
   have d6 : H6 D = some (.lst ys) := s6 _ _ hd
   have ex : Exc1 D H6 (upd H6 D (.lst (ys ++ [y]))) := fun b o e hb => by rw [G6 hb]; exact e
   refine ⟨d6, Nat.lt_of_le_of_lt (by omega : ys.length <= 1000) (A0y (Nat.le_refl _)), hlt, by simp [hl], A7, fun b o e => ?_, fun j z hj => ?_⟩
   . rw [G6 (G7 e hD)]
     exact s6 _ _ (sm _ _ e)
   . by_cases hj' : j < ys.length
     . rw [List.getElem?_append_left hj'] at hj
       exact mono j z H6 _ D ys (mono j z H2 H6 D ys (hR j z hj) hd fun b o e _ => s6 _ _ e) d6 ex
     . rw [List.getElem?_append_right (by omega)] at hj
       have e0 : j - ys.length = 0 := by
         apply Classical.byContradiction
         intro q
         rw [List.getElem?_eq_none (by simp; omega)] at hj
         cases hj
       rw [e0] at hj
       have ej : j = i := by omega
       subst ej
       cases hj
       exact mono _ _ H6 _ D ys r6 d6 ex
 have e : i = n := by omega
 subst e
 exact .inl ⟨stop H2 sm, k D H2 ys sm hD hd hl hR⟩
open AutoSeq1 (wpAny_loadPart')
section
variable {prog : Program} {w : World} {A : Around} {E : Value -> Shared -> Prop} {s : Shared}
end
section
variable {X : Cx} {es : List Expr} {k : Nat} {tp : Pos}
end
end L2
namespace L2
open PySem PySem.Spec PyProof.Rows PySem.W
section
variable {X : Cx}
theorem C0a : A6z X (.builtin "divmod") (fun xs H Q => ∃ i j : Int, xs = [.int i, .int j] /\ (0 < j /\ j.natAbs.log2 < 9000) /\ ∀ p, H p = none -> Q (.ref p) (upd H p (.tup [.int (i / j), .int (i % j)]))) := by
 intro pins s σ H xs us Q I r h
 obtain ⟨i, j, rfl, ⟨h1, h2⟩, q⟩ := h
 obtain ⟨u, w', rfl, ⟨t, rfl⟩, ⟨t', rfl⟩⟩ := Y4q r
 refine divmod_int (by omega) ?_ (.inl (PyProof.noPylong_of_log2 h2))
 rw [Int.fdiv_eq_ediv_of_nonneg i (by omega), Int.fmod_eq_emod_of_nonneg i (by omega)]
 refine ⟨.ref s.heap.objs.size, upd H s.heap.objs.size (.tup [.int (i / j), .int (i % j)]), I.laid (fun b o e => Heap.get?_push_of_some _ e) (Nat.le_refl _) ⟨D7 (by show 2 <= 1000; decide), [.int (i / j) s.toks, .int (i % j) (s.toks + 1)], .cons ⟨_, rfl⟩ (.cons ⟨_, rfl⟩ .nil), ⟨_, Heap.get?_push_size s.heap rfl, rfl, 0, rfl⟩⟩, rfl, q _ (I.hok.fresh (Nat.le_refl _))⟩
end
end L2
namespace L2
open PySem PySem.W PyProof.Rows
section
variable {X : Cx} {o e : Expr} {ta : TE} {m : Str} {apos pos : Pos} {j k : Nat} {ps : List Str} {ι : Type} {cw f : ι -> Addr} {fd : ι -> FuncData} {sp : ι -> Sp} {EH : EK}
end
section
variable {X : Cx} {a b e o : Expr} {es : List Expr} {ta tb te to : TE} {t : TA} {pos : Pos} {st : Stmt} {rest : List Stmt} {ts u : TS}
end
end L2
namespace L2
open PySem PySem.Spec PyProof.Rows PySem.W
section
variable {X : Cx} {x f : Str} {p cpos pos : Pos} {e : Expr} {t : TA} {C fI : Addr} {fdI : FuncData} {ps : List Str} {j k : Nat}
end
section
variable {X : Cx} {x y : Str} {e : Expr} {t : TE} {p q : Pos} {pos pos2 : Pos}
end
end L2
namespace L2
open PySem PySem.Spec PyProof.Rows
end L2
namespace L2
open PySem PySem.Spec PyProof.Rows PySem.W
mutual
inductive RdR (H : Hp) : V -> PyData -> Prop where
 | non : RdR H .non .none
 | bl (b : Bool) : RdR H (.bl b) (.bool b)
 | int (i : Int) : RdR H (.int i) (.int i)
 | str (x : Str) : RdR H (.str x) (.str x)
 | tup {a : Addr} {xs : List V} {ds : List PyData} (h : H a = some (.tup xs)) (r : B6p H xs ds) : RdR H (.ref a) (.tuple ds)
 | lst {a : Addr} {xs : List V} {ds : List PyData} (h : H a = some (.lst xs)) (n : a ≠ sysModules) (r : B6p H xs ds) : RdR H (.ref a) (.list ds)
 | dct0 {a : Addr} (h : H a = some (.dK [])) : RdR H (.ref a) (.dict [])
 | dct1 {a : Addr} {z : Str} {b : Bool} (h : H a = some (.dK [(.inr z, .bl b)])) : RdR H (.ref a) (.dict [(.str z, .bool b)])
inductive B6p (H : Hp) : List V -> List PyData -> Prop where
 | nil : B6p H [] []
 | cons {x : V} {xs : List V} {d : PyData} {ds : List PyData} (h : RdR H x d) (r : B6p H xs ds) : B6p H (x :: xs) (d :: ds)
end
mutual
theorem RdR.same {H H' : Hp} (s : ∀ b o, H b = some o -> H' b = some o) : ∀ {x : V} {d : PyData}, RdR H x d -> RdR H' x d
 | _, _, .non => .non
 | _, _, .bl b => .bl b
 | _, _, .int i => .int i
 | _, _, .str x => .str x
 | _, _, .tup h r => .tup (s _ _ h) (B6p.same s r)
 | _, _, .lst h n r => .lst (s _ _ h) n (B6p.same s r)
 | _, _, .dct0 h => .dct0 (s _ _ h)
 | _, _, .dct1 h => .dct1 (s _ _ h)
theorem B6p.same {H H' : Hp} (s : ∀ b o, H b = some o -> H' b = some o) : ∀ {x : List V} {d : List PyData}, B6p H x d -> B6p H' x d
 | _, _, .nil => .nil
 | _, _, .cons h r => .cons (RdR.same s h) (B6p.same s r)
end
section
variable {X : Cx}
mutual
theorem RdR.reads {pins : List (Addr × Obj)} {σ : St} {H : Hp} {s : Shared} (I : Inv X pins σ H s) : ∀ {x : V} {d : PyData} {u : Value}, RdR H x d -> V0 x u -> ∃ as, Reads s.heap u d as /\ sysModules ∉ as
 | _, _, _, .non, r => by cases r; exact ⟨_, .none, by simp⟩
 | _, _, _, .bl b, r => by cases r; exact ⟨_, .bool b, by simp⟩
 | _, _, _, .int i, r => by obtain ⟨t, rfl⟩ := r; exact ⟨_, .int i t, by simp⟩
 | _, _, _, .str x, r => by obtain ⟨t, rfl⟩ := r; exact ⟨_, .str x t, by simp⟩
 | _, _, _, .tup h q, r => by
   cases r
   obtain ⟨_, its, rv, o, e, c, n, d⟩ := I.hok _ _ h
   obtain ⟨as, z, y⟩ := B6p.reads I q rv
   exact ⟨_, .tuple e c d (by simpa using z), y⟩
 | _, _, _, .lst (a := a) h nn q, r => by
   cases r
   obtain ⟨_, its, n, rv, e⟩ := I.hok _ _ h
   obtain ⟨as, z, y⟩ := B6p.reads I q rv
   refine ⟨_, .list e rfl rfl (by simpa using z), fun hm => ?_⟩
   rcases List.mem_cons.mp hm with hm | hm
   . exact nn hm.symm
   . exact y hm
 | _, _, _, .dct0 (a := a) h, r => by
   cases r
   obtain ⟨_, nS, vs, kv, o, es, ep, e, c, d, _, ps, _⟩ := I.hok _ _ h
   cases kv
   cases hp : es.toList with
   | cons _ _ => rw [hp] at ps; cases ps
   | nil =>
     refine ⟨_, .dict (kvs := []) e c.1 d (by rw [hp]; exact .nil) (by rw [hp]; exact .nil), fun hm => ?_⟩
     exact beq_eq_false_iff_ne.mp nS (by simpa using hm : sysModules = a).symm
 | _, _, _, .dct1 (a := a) (z := z) (b := b) h, r => by
   cases r
   obtain ⟨_, nS, vs, kv, o, es, ep, e, c, d, _, ps, _⟩ := I.hok _ _ h
   cases kv with
   | cons k1 k2 =>
     cases k2
     obtain ⟨k1a, k1b⟩ := k1
     cases ps' : es.toList with
     | nil => rw [ps'] at ps; cases ps
     | cons en rest =>
       rw [ps'] at ps
       cases ps with
       | cons p1 p2 p3 =>
         cases p3
         have hk : ∃ t, en.key = .str z t := by
           rw [<- k1a] at p1
           have p1 : Value.isStrOf z en.key = true := p1
           cases hk : en.key <;> rw [hk] at p1 <;> simp [Value.isStrOf] at p1
           subst p1
           exact ⟨_, rfl⟩
         obtain ⟨t, hk⟩ := hk
         have hv : en.val = .bool b := p2.trans k1b
         refine ⟨_, .dict (kvs := [(.str z, .bool b)]) e c.1 d (by rw [ps']; show ReadsAll s.heap [en.key] [.str z] _; rw [hk]; exact .cons (.str z t) .nil) (by rw [ps']; show ReadsAll s.heap [en.val] [.bool b] _; rw [hv]; exact .cons (.bool b) .nil), fun hm => ?_⟩
         exact beq_eq_false_iff_ne.mp nS (by simpa using hm : sysModules = a).symm
theorem B6p.reads {pins : List (Addr × Obj)} {σ : St} {H : Hp} {s : Shared} (I : Inv X pins σ H s) : ∀ {xs : List V} {ds : List PyData} {us : List Value}, B6p H xs ds -> U2 xs us -> ∃ as, ReadsAll s.heap us ds as /\ sysModules ∉ as
 | _, _, _, .nil, r => by cases r; exact ⟨_, .nil, by simp⟩
 | _, _, _, .cons h q, r => by
   cases r with
   | cons r1 r2 =>
     obtain ⟨as, z, n1⟩ := RdR.reads I h r1
     obtain ⟨bs, y, n2⟩ := B6p.reads I q r2
     exact ⟨_, .cons z y, by simp [n1, n2]⟩
end
end
section
variable {X : Cx} {j k : Nat} {f C : Addr} {fd : FuncData} {ps : List Str} {sp : Sp} {dvs : List V} {ds : List Value} {x m : Str} {p pos apos : Pos} {e o : Expr} {es : List Expr} {ta : TE} {t : TA} {st : Stmt}
end
section
variable {cs : List Addr} {H H' H2 : Hp} {b : Addr} {P : Program} {w : World} {h h' : Heap} {fs : List Addr}
end
section
variable {X : Cx} {j k : Nat} {f : Addr} {fd : FuncData} {ps : List Str} {sp : Sp} {ds : List Value} {EH : EK} {x : Str} {p pos : Pos} {e : Expr} {es : List Expr} {t : TA} {st : Stmt}
end
section
variable {X : Cx}
end
section
variable {X : Cx} {tg : Expr}
end
section
variable {X : Cx}
end
section
variable {prog : Program} {w : World} {A : Around} {E : Value -> Shared -> Prop} {s : Shared}
end
section
variable {X : Cx} {pos : Pos}
end
section
variable {X : Cx} {pos tpos pa pb : Pos}
def A0ss (K : Frag) (te : TE) (i j : Nat) : TS := fun D σ H => te σ H fun x H1 => ∃ t v1 v2, x = .ref t /\ SqT K H1 t [v1, v2] /\ D.nx ((σ.set j (some v2)).set i (some v1)) H1
theorem Y6e {i j : Nat} {a b : Str} {k : Nat} {e : Expr} {te : TE} (hc : X.calm = true) (hN : X.N.Nodup) (hi : X.N[i]? = some a) (hj : X.N[j]? = some b) (ha : Loc X.env.scope a) (hb : Loc X.env.scope b) (he : PE X e te)
   (hfa : X.fn a = true \/ X.env.scope.names.lookup a = some .local := by first | exact .inl rfl | exact .inr rfl | assumption) (hfb : X.fn b = true \/ X.env.scope.names.lookup b = some .local := by first | exact .inl rfl | exact .inr rfl | assumption)
   (hs : swapsWithSole [.Tuple [.Name a pa, .Name b pb] k tpos] e pos.line X.env = pure false := by rfl) (hw : swappedStores [.Tuple [.Name a pa, .Name b pb] k tpos] e X.env = pure (some [a, b]) := by rfl) :
   PS X (.Assign [.Tuple [.Name a pa, .Name b pb] k tpos] e pos) (A0ss X.K te i j) := by
 intro pins s σ H D I h
 refine Assign_Tuple_swapped (thn (he pins s σ H _ I h) fun v s1 ⟨x, H1, I1, r1, q1⟩ => ?_) hs hw
 obtain ⟨t, v1, v2, e1, hq, hw⟩ := q1
 subst e1
 cases r1
 obtain ⟨its, rv, ht, hz⟩ := I1.tuple hq
 have hl : its.toArray.size = 2 := by simp [<- rv.length]
 show wpAny _ _ (unpackItems (.ref t) 2 none) _ _ s1
 rw [<- hl]
 refine unpackItems_tuple (I1.ok.hd hc) ht fun h' hx => ?_
 have I2 : Inv X pins σ H1 { s1 with heap := h' } := I1.kept (t' := s1.toks) fun b o e => hx b o (Nat.ne_of_lt (Heap.lt_size e)) e
 cases rv with
 | cons r1 rr =>
   cases rr with
   | cons r2 rr =>
     cases rr
     show wpAny _ _ (assignInOrder [bindName X.env b, bindName X.env a] [_, _]) _ _ _
     refine assignInOrder_cons (bindName_ (B1j I2 hN hj hb r2 (fun s' I' => ?_) hfb))
     exact assignInOrder_cons (bindName_ (B1j I' hN hi ha r1 (fun s'' I'' => assignInOrder_nil ⟨_, H1, I'', hw⟩) hfa))
end
end L2
namespace TR
open PySem L2 PySem.W PyProof.Rows
seal PE PS PSs PA PT PW PG PGs PI
abbrev Q0 : List Str := ["self", "sign", "last", "part"]
abbrev Q3 : List Str := ["self", "sign"]
abbrev Q4 : List Str := ["one", "other"]
abbrev Q5 : List Str := ["context", "sign"]
abbrev Q6 : List Str := ["thing", "least", "most"]
abbrev Q7 : List Str := ["context", "sign", "ideal"]
abbrev Q8 : List Str := ["_law_frame_here", "_law_one", "_law_other"]
abbrev Q9 : List Str := ["context", "one", "other"]
abbrev Q10 : List Str := ["_law_power_here"]
abbrev Q11 : List Str := ["_law_frame_here", "_law_sign", "_law_ideal"]
abbrev Q12 : List Str := ["context", "number"]
abbrev Q13 : List Str := ["context", "sign", "exact", "ideal"]
abbrev Q14 : List Str := ["_law_frame_here", "_law_sign", "_law_value", "_law_ideal"]
abbrev Q15 : List Str := ["self", "power"]
abbrev Q16 : List Str := ["_law_figures_here"]
abbrev Q17 : List Str := ["numbers", "kind"]
abbrev Q18 : List Str := ["_law_cell", "_law_k"]
abbrev Q19 : List Str := ["_law_cell", "_law_most"]
abbrev Q20 : List Str := ["size", "middle"]
abbrev Q21 : List Str := ["whole", "count"]
abbrev Q22 : List Str := ["self", "top", "bottom", "power"]
abbrev Q23 : List Str := ["ideal", "sign", "figures", "power"]
abbrev Q24 : List Str := ["context", "sign", "pair"]
abbrev Q25 : List Str := ["context", "sign", "figures", "power"]
abbrev Q26 : List Str := ["context", "exact"]
abbrev Q27 : List Str := ["self", "top", "power"]
abbrev Q28 : List Str := ["context", "one", "other", "ideal"]
abbrev Q29 : List Str := ["number", "power"]
abbrev Q30 : List Str := ["_law_value", "_law_power_here"]
abbrev Q31 : List Str := ["_law_one", "_law_other"]
abbrev Q32 : List Str := ["sign", "figures", "power"]
abbrev Q33 : List Str := ["part", "is_cut"]
abbrev Q34 : List Str := ["context", "lead", "part"]
abbrev Q35 : List Str := ["thing", "most"]
abbrev Q36 : List Str := ["_law_script", "_law_k"]
abbrev Q37 : List Str := ["_law_frame_here"]
abbrev Q38 : List Str := ["_law_way", "_law_sign", "_law_last", "_law_part"]
abbrev Q39 : List Str := ["context", "one"]
abbrev Q40 : List Str := ["context", "sign", "power", "count"]
abbrev Q41 : List Str := ["_law_frame_here", "_law_one"]
abbrev Q42 : List Str := ["_law_frame_here", "_law_way", "_law_parts", "_law_count_here"]
abbrev Q43 : List Str := ["_law_context_here", "_law_way", "_law_numbers", "_law_count_here"]
abbrev Q44 : List Str := ["self", "kind", "sign", "figures", "power"]
abbrev Q45 : List Str := ["self", "room", "way", "least", "most"]
abbrev Q46 : List Str := ["self", "signal"]
abbrev Q47 : List Str := ["_law_room", "_law_way", "_law_most", "_law_sign"]
abbrev Q48 : List Str := ["context", "one", "count"]
abbrev Q49 : List Str := ["_law_number", "_law_count_here"]
abbrev Q50 : List Str := ["_law_frame_here", "_law_one", "_law_count_here"]
abbrev Q51 : List Str := ["_law_parts", "_law_more"]
abbrev Q52 : List Str := ["self", "power", "shift", "top", "bottom", "whole"]
abbrev Q53 : List Str := ["burst", "off", "cut"]
variable {P : Program} {w : World} {K : Frag} {mg : Str -> Option Value} {base : Heap}
abbrev sr (a : Addr) : Option V := some (.ref a)
abbrev si (a : Int) : Option V := some (.int a)
abbrev sR (a : Str) : Option V := some (.str a)
abbrev sI (P : Program) (w : World) (K : Frag) (mg : Str -> Option Value) (base : Heap) := A8 P w K mg base (CX1 P w)
def top (i : Nat) : Stmt := PySem.Challenge.pw_tenreckon_k35_whole_quotients_exactly.main.body.getD i (.Pass ⟨0, 0, 0, 0⟩)
abbrev C8e : Stmt := (top 29)
def A0xr (K : Frag) : Sp := fun vs H Q _ => ∃ v lo hi, vs = [v, .int lo, .int hi] /\ ((B6v lo hi v /\ Q (.bl true) H) \/ (D5b K H lo hi v /\ Q (.bl false) H))
theorem A0xm : C5 Q6 Q6 (A2 C8e) := scK
theorem U1e {f : Addr} {fd : FuncData} (D : Def K mg "is_between" Q6 C8e f fd) (O : Own mg) (T : Kit K) : sI P w K mg base 1 f fd Q6 (A0xr K) := by
 refine A8.up (D.F.ok A0xm (fun vs H Q E h => ?_) (fun cdv A outer s H vs Q E hr h => ?_))
 . obtain ⟨v, lo, hi, rfl, _⟩ := h
   rfl
 obtain ⟨v, lo, hi, rfl, h⟩ := h
 refine ⟨_, (A3 (G4 (PW.pt (D8x (A4k (Y2 (V5w O.isi (pv 0) (pty O.int_ boot_int)))) (C1v (Y2 (V5w O.isi (pv 0) (pty O.bool_ boot_bool)))))) (A6 (B0 A3k)) D0) (A6 (B0 (B1t (G9 D9r (pv 0) (pv 1) (C6 _)) (A6f (G9 A0qw (pv 0) (pv 2) (C6 _))))))), ?_⟩
 rcases h with ⟨⟨i, rfl, h1, h2⟩, k⟩ | ⟨⟨t, b1, b2, ty, k1, k2, bad⟩, k⟩
 . refine ⟨_, rfl, _, _, _, _, true, rfl, rfl, A0qs i, T.int_int, _, rfl, V3 ?_⟩
   refine ⟨_, rfl, _, _, _, _, false, rfl, rfl, A0qs i, T.int_bool, _, rfl, V3 ?_⟩
   refine ⟨_, rfl, _, rfl, _, _, rfl, rfl, _, rfl, A0p h1 ?_⟩
   refine ⟨_, rfl, _, rfl, _, _, rfl, rfl, ?_⟩
   show Q (.bl (decide (i <= hi))) H
   rw [decide_eq_true h2]
   exact k
 refine ⟨_, rfl, _, _, _, _, b1, rfl, rfl, ty, k1, _, rfl, ?_⟩
 cases b1 with
 | false => exact Z5 (Z5 k)
 | true =>
   refine V3 ⟨_, rfl, _, _, _, _, b2, rfl, rfl, ty, k2, _, rfl, ?_⟩
   cases b2 with
   | true => exact Z5 k
   | false =>
     obtain ⟨i, rfl, out⟩ := bad.resolve_left (by decide)
     refine V3 ⟨_, rfl, _, rfl, _, _, rfl, rfl, _, rfl, J1 (fun h1 => ?_) (fun h1 => ?_)⟩
     . refine ⟨_, rfl, _, rfl, _, _, rfl, rfl, ?_⟩
       show Q (.bl (decide (i <= hi))) H
       rw [decide_eq_false (by omega : ¬ i <= hi)]
       exact k
     . exact k
structure Err (K : Frag) (mg : Str -> Option Value) (x : Str) (CB : Addr) : Prop where
 g : mg x = some (.ref CB)
 q : excIn K CB [.type "ValueError", .type "Exception", .type "BaseException", .type "object"] "ValueError.__new__" = true
def C0k (lo hi : Int) : Prop := lo.natAbs.log2 < 1920 /\ hi.natAbs.log2 < 1920 /\ (Str.ofString (toString lo)).length <= 100 /\ (Str.ofString (toString hi)).length <= 100
abbrev A4x : Stmt := (top 68)
def D9c (K : Frag) (CB : Addr) : Sp := fun vs H Q E => ∃ v lo hi, vs = [v, .int lo, .int hi] /\ C0k lo hi /\ ((B6v lo hi v /\ Q v H) \/ (D5b K H lo hi v /\ E (.ref CB) none H))
theorem V6w : C5 Q6 Q6 (A2 A4x) := scK
theorem U1r {f f1 CB : Addr} {fd fd1 : FuncData} (D : Def K mg "bounded" Q6 A4x f fd) (D1 : Def K mg "is_between" Q6 C8e f1 fd1) (O : Own mg) (T : Kit K) (B : Err K mg "BadContext" CB) :
   sI P w K mg base 2 f fd Q6 (D9c K CB) := by
 have G1 := U1e (P := P) (w := w) (base := base) D1 O T
 refine D.F.okE V6w (fun vs H Q E h => ?_) (fun X cdv A outer s H vs Q E hX hr hx h => ?_)
 . obtain ⟨v, lo, hi, rfl, _⟩ := h
   rfl
 subst hX
 obtain ⟨v, lo, hi, rfl, ⟨l1, l2, l3, l4⟩, h⟩ := h
 refine ⟨_, (A3 (G4 (A4k (Y2 (C9 D1 G1 hr hx (A0 (pv 0) (A0 (pv 1) (A0 (pv 2) A5)))))) (A6 (A2n (by rfl) B.g B.q PySem.F.excBase_ValueError hr.hd hx (A0 (G1c (.cons .lit (.cons (.int (pv 1)) (.cons .lit (.cons (.int (pv 2)) .nil))))) A5))) D0) (A6 (B0 (pv 0)))), ?_⟩
 rcases h with ⟨g, k⟩ | ⟨bad, k⟩
 . exact ⟨_, rfl, _, rfl, _, rfl, _, _, _, rfl, .inl ⟨g, _, rfl, V3 ⟨_, rfl, k⟩⟩⟩
 have a0 : Str.empty.length = 0 := rfl
 have a1 : (Str.ofString "not a whole number from ").length = 24 := by decide +kernel
 have a2 : (Str.ofString " to ").length = 4 := by decide +kernel
 have sz : ∀ {n : Nat}, n <= 1000 -> n <= sizeLine := fun h => Nat.le_of_lt (A0y h)
 refine ⟨_, rfl, _, rfl, _, rfl, _, _, _, rfl, .inr ⟨bad, _, rfl, Z5 ?_⟩⟩
 exact ⟨_, rfl, sz (by rw [strLen_append]; omega), _, rfl, _, rfl, l1, _, rfl, sz (by rw [strLen_append, strLen_append]; omega), _, rfl, sz (by rw [strLen_append, strLen_append, strLen_append]; omega), _, rfl, _, rfl, l2, _, rfl, sz (by rw [strLen_append, strLen_append, strLen_append, strLen_append]; omega), sz (by rw [strLen_append, strLen_append, strLen_append, strLen_append]; omega), sz (by show 1 <= 1000; decide), k⟩
abbrev A2s : Stmt := (top 30)
def V7x (K : Frag) (CB : Addr) : Sp := fun vs H Q E => ∃ v lo hi, vs = [v, .int lo, .int hi] /\ C0k lo hi /\
 ((B6v lo hi v /\ Q .non H) \/ (D5b K H lo hi v /\ E (.ref CB) none H))
theorem V6k : C5 Q6 Q6 (A2 A2s) := scK
theorem C9d {f f1 CB : Addr} {fd fd1 : FuncData} (D : Def K mg "need_between" Q6 A2s f fd) (D1 : Def K mg "is_between" Q6 C8e f1 fd1) (O : Own mg) (T : Kit K) (B : Err K mg "BadNumber" CB) :
   sI P w K mg base 2 f fd Q6 (V7x K CB) := by
 have G1 := U1e (P := P) (w := w) (base := base) D1 O T
 refine D.F.okE V6k (fun vs H Q E h => ?_) (fun X cdv A outer s H vs Q E hX hr hx h => ?_)
 . obtain ⟨v, lo, hi, rfl, _⟩ := h
   rfl
 subst hX
 obtain ⟨v, lo, hi, rfl, ⟨l1, l2, l3, l4⟩, h⟩ := h
 refine ⟨_, (A6 (G4 (A4k (Y2 (C9 D1 G1 hr hx (A0 (pv 0) (A0 (pv 1) (A0 (pv 2) A5)))))) (A6 (A2n (by rfl) B.g B.q PySem.F.excBase_ValueError hr.hd hx (A0 (G1c (.cons .lit (.cons (.int (pv 1)) (.cons .lit (.cons (.int (pv 2)) .nil))))) A5))) D0)), ?_⟩
 rcases h with ⟨g, k⟩ | ⟨bad, k⟩
 . exact ⟨_, rfl, _, rfl, _, rfl, _, _, _, rfl, .inl ⟨g, _, rfl, V3 k⟩⟩
 have a0 : Str.empty.length = 0 := rfl
 have a1 : (Str.ofString "not a whole number from ").length = 24 := by decide +kernel
 have a2 : (Str.ofString " to ").length = 4 := by decide +kernel
 have sz : ∀ {n : Nat}, n <= 1000 -> n <= sizeLine := fun h => Nat.le_of_lt (A0y h)
 refine ⟨_, rfl, _, rfl, _, rfl, _, _, _, rfl, .inr ⟨bad, _, rfl, Z5 ?_⟩⟩
 exact ⟨_, rfl, sz (by rw [strLen_append]; omega), _, rfl, _, rfl, l1, _, rfl, sz (by rw [strLen_append, strLen_append]; omega), _, rfl, sz (by rw [strLen_append, strLen_append, strLen_append]; omega), _, rfl, _, rfl, l2, _, rfl, sz (by rw [strLen_append, strLen_append, strLen_append, strLen_append]; omega), sz (by rw [strLen_append, strLen_append, strLen_append, strLen_append]; omega), sz (by show 1 <= 1000; decide), k⟩
abbrev D9z : Stmt := (J2 (top 18) 0)
abbrev C9s : Stmt := (top 22)
abbrev A4p : Stmt := (top 24)
structure Num (K : Frag) (mg : Str -> Option Value) (CN : Addr) : Prop where
 g : mg "Number" = some (.ref CN)
 cl : Cls K CN
 n1 : Y6 K CN "kind"
 n2 : Y6 K CN "sign"
 n3 : Y6 K CN "figures"
 n4 : Y6 K CN "power"
 ca : findIn K (.ref CN) "__class__" = some (some (.builtin "object.__class__"))
 sn : specialIn K (.builtin "object.__class__") "__get__" = some (some (.builtin "getset_descriptor.__get__"))
 tk : takesIn K (.builtin "object.__class__") = some true
 ob : mroIn K CN (.type "object") = some true
 self : kitOne K (.ref CN) (.ref CN) = some true
def D5a (k s f p : V) : List (Str × V) := V6 "power" p (V6 "figures" f (V6 "sign" s (V6 "kind" k [])))
theorem e12 : ¬ (("kind" : Str) = "sign") := by decide +kernel
theorem e13 : ¬ (("kind" : Str) = "figures") := by decide +kernel
theorem e14 : ¬ (("kind" : Str) = "power") := by decide +kernel
theorem e23 : ¬ (("sign" : Str) = "figures") := by decide +kernel
theorem e24 : ¬ (("sign" : Str) = "power") := by decide +kernel
theorem e34 : ¬ (("figures" : Str) = "power") := by decide +kernel
theorem B1u (k s f p : V) : (D5a k s f p).lookup ("kind" : Str) = some k := by unfold D5a; rw [G8, if_neg e14, G8, if_neg e13, G8, if_neg e12, G8, if_pos rfl]
theorem D5e (k s f p : V) : (D5a k s f p).lookup ("sign" : Str) = some s := by unfold D5a; rw [G8, if_neg e24, G8, if_neg e23, G8, if_pos rfl]
theorem B6n (k s f p : V) : (D5a k s f p).lookup ("figures" : Str) = some f := by unfold D5a; rw [G8, if_neg e34, G8, if_pos rfl]
theorem A6u (k s f p : V) : (D5a k s f p).lookup ("power" : Str) = some p := by unfold D5a; rw [G8, if_pos rfl]
def A5b (CN : Addr) (H : Hp) (n : Addr) (k s f p : V) : Prop := ∃ dx, H n = some (.ins CN dx (D5a k s f p))
theorem A5b.same {CN : Addr} {H H' : Hp} {n : Addr} {k s f p : V} (h : A5b CN H n k s f p) (e : C8 H H') : A5b CN H' n k s f p := by
 obtain ⟨dx, z⟩ := h
 exact ⟨dx, e _ _ z⟩
theorem Num.ty {K : Frag} {mg : Str -> Option Value} {CN : Addr} (N : Num K mg CN) {H : Hp} {n : Addr} {k s f p : V} (h : A5b CN H n k s f p) : TyE K H (.ref n) (.ref CN) := by
 obtain ⟨dx, z⟩ := h
 exact .of (.ins z N.cl N.ca N.sn N.tk N.ob)
def G2q (CN : Addr) : Sp := fun vs H Q _ => ∃ (p dx : Addr) (k s f pw : V), vs = [.ref p, k, s, f, pw] /\ H p = some (.ins CN dx []) /\ ∀ H', H' p = some (.ins CN dx (D5a k s f pw)) -> (∀ b o, H b = some o -> b ≠ p -> H' b = some o) -> Q .non H'
theorem A0sz : C5 Q44 Q44 (A2 D9z) := scK
theorem A0hy {f CN : Addr} {fd : FuncData} (F : Fun K "__init__" "Number.__init__" D9z f fd) (N : Num K mg CN) : A8 P w K mg base CX0 1 f fd Q44 (G2q CN) := by
 refine F.ok A0sz (fun vs H Q E h => ?_) (fun cdv A outer s H vs Q E hr h => ?_)
 . obtain ⟨p, dx, a, b, c, d, rfl, _⟩ := h
   rfl
 obtain ⟨p, dx, a, b, c, d, rfl, hp, k⟩ := h
 refine ⟨_, A3 (Z6 (pv 0) (pv 1) rfl) (A3 (Z6 (pv 0) (pv 2) rfl) (A3 (Z6 (pv 0) (pv 3) rfl) (A6 (Z6 (pv 0) (pv 4) rfl)))), ?_⟩
 have l : ∀ (fs : List (Str × V)) (f : Str) (v : V) (n : Nat), fs.length <= n -> (V6 f v fs).length <= n + 1 := fun fs f v n h => Nat.le_trans (A0x f v fs) (Nat.succ_le_succ h)
 refine ⟨_, rfl, _, rfl, p, CN, dx, [], rfl, hp, N.cl, N.n1, (by show 0 < 1000; decide), ?_⟩
 refine ⟨_, rfl, _, rfl, p, CN, dx, _, rfl, A7, N.cl, N.n2, Nat.lt_of_le_of_lt (l _ _ _ 0 (Nat.le_refl _)) (by decide), ?_⟩
 refine ⟨_, rfl, _, rfl, p, CN, dx, _, rfl, A7, N.cl, N.n3, Nat.lt_of_le_of_lt (l _ _ _ 1 (l _ _ _ 0 (Nat.le_refl _))) (by decide), ?_⟩
 refine ⟨_, rfl, _, rfl, p, CN, dx, _, rfl, A7, N.cl, N.n4, Nat.lt_of_le_of_lt (l _ _ _ 2 (l _ _ _ 1 (l _ _ _ 0 (Nat.le_refl _)))) (by decide), ?_⟩
 refine k _ A7 fun b o e hb => ?_
 rw [G6 hb, G6 hb, G6 hb, G6 hb]
 exact e
structure C0n (P : Program) (w : World) (K : Frag) (mg : Str -> Option Value) (base : Heap) (CN fI : Addr) (fdI : FuncData) : Prop where
 m : Mk K CN fI
 g : A8 P w K mg base CX0 1 fI fdI Q44 (G2q CN)
 b : Binds K fdI Q44 []
theorem made {CN : Addr} {H : Hp} {Q : VK} {k s f p : V} (h : ∀ n H', H n = none -> C8 H H' -> A5b CN H' n k s f p -> Q (.ref n) H') :
   ∀ x dx, H x = none -> H dx = none -> dx ≠ x -> G2q CN (.ref x :: ([k, s, f, p] ++ [])) (upd (upd H dx (.own x)) x (.ins CN dx [])) (fun v H2 => v = .non /\ Q (.ref x) H2) E0 := by
 intro x dx nx nd ne
 refine ⟨x, dx, k, s, f, p, rfl, A7, fun H' e kp => ⟨rfl, h x H' nx (fun b o z => ?_) ⟨dx, e⟩⟩⟩
 refine kp b o ?_ (G7 z nx)
 rw [G6 (G7 z nx), G6 (G7 z nd)]
 exact z
def U0b (K : Frag) (CN : Addr) (H : Hp) (v : V) : Prop := ∃ t, TyE K H v t /\ kitOne K t (.ref CN) = some false
def C0f (K : Frag) (CN CB : Addr) : Sp := fun vs H Q E => ∃ v, vs = [v] /\ ((∃ n k s f p, v = .ref n /\ A5b CN H n k s f p /\ Q v H) \/ (U0b K CN H v /\ E (.ref CB) none H))
theorem A0jn : C5 ["thing"] ["thing"] (A2 A4p) := scK
theorem J4q {f CN CB : Addr} {fd : FuncData} (D : Def K mg "need_number" ["thing"] A4p f fd) (O : Own mg) (T : Kit K) (B : Err K mg "BadNumber" CB) (N : Num K mg CN) : sI P w K mg base 1 f fd ["thing"] (C0f K CN CB) := by
 refine D.F.okE A0jn (fun vs H Q E h => ?_) (fun X cdv A outer s H vs Q E hX hr hx h => ?_)
 . obtain ⟨v, rfl, _⟩ := h
   rfl
 subst hX
 obtain ⟨v, rfl, h⟩ := h
 refine ⟨_, (A3 (G4 (A4k (Y2 (V5w O.isi (pv 0) (pcls N.g)))) (A6 (A2n (by rfl) B.g B.q PySem.F.excBase_ValueError hr.hd hx (A0 D5 A5))) D0) (A6 (B0 (pv 0)))), ?_⟩
 rcases h with ⟨n, a, b, c, d, rfl, hn, k⟩ | ⟨⟨t, ty, k1⟩, k⟩
 . exact ⟨_, rfl, _, _, _, _, true, rfl, rfl, N.ty hn, N.self, _, rfl, V3 ⟨_, rfl, k⟩⟩
 exact ⟨_, rfl, _, _, _, t, false, rfl, rfl, ty, k1, _, rfl, Z5 ⟨Nat.le_of_lt (A0y (by show 1 <= 1000; decide)), k⟩⟩
def Y7t (K : Frag) (CN CB : Addr) : Sp := fun vs H Q E => ∃ v, vs = [v] /\ ((∃ n k s f p, v = .ref n /\ A5b CN H n k s f p /\ ∀ t, H t = none -> Q (.ref t) (upd H t (.tup [k, s, f, p]))) \/ (U0b K CN H v /\ E (.ref CB) none H))
theorem A0rm : C5 ["number"] ["number"] (A2 C9s) := scK
theorem A0ht {f f1 CN CB : Addr} {fd fd1 : FuncData} (D : Def K mg "told" ["number"] C9s f fd) (D_need_number : Def K mg "need_number" ["thing"] A4p f1 fd1) (O : Own mg) (T : Kit K) (B : Err K mg "BadNumber" CB) (N : Num K mg CN) :
   sI P w K mg base 2 f fd ["number"] (Y7t K CN CB) := by
 have G_need_number := J4q (P := P) (w := w) (base := base) D_need_number O T B N
 refine D.F.okE A0rm (fun vs H Q E h => ?_) (fun X cdv A outer s H vs Q E hX hr hx h => ?_)
 . obtain ⟨v, rfl, _⟩ := h
   rfl
 subst hX
 obtain ⟨v, rfl, h⟩ := h
 refine ⟨_, (A3 (V7 (C9 D_need_number G_need_number hr hx (A0 (pv 0) A5))) (A6 (B0 (U5 (A0 (D6 (pv 0) rfl) (A0 (D6 (pv 0) rfl) (A0 (D6 (pv 0) rfl) (A0 (D6 (pv 0) rfl) A5)))))))), ?_⟩
 rcases h with ⟨n, a, b, c, d, rfl, hn, k⟩ | ⟨bad, k⟩
 . refine ⟨_, rfl, _, rfl, .inl ⟨n, a, b, c, d, rfl, hn, ?_⟩⟩
   obtain ⟨dx, e⟩ := hn
   exact ⟨_, rfl, n, CN, dx, _, _, rfl, e, N.cl, N.n1, B1u _ _ _ _, _, rfl, n, CN, dx, _, _, rfl, e, N.cl, N.n2, D5e _ _ _ _, _, rfl, n, CN, dx, _, _, rfl, e, N.cl, N.n3, B6n _ _ _ _, _, rfl, n, CN, dx, _, _, rfl, e, N.cl, N.n4, A6u _ _ _ _,
     Nat.le_of_lt (A0y (by show 4 <= 1000; decide)), k⟩
 exact ⟨_, rfl, _, rfl, .inr ⟨bad, k⟩⟩
abbrev B7h : Stmt := (top 19)
abbrev G1r : Stmt := (top 20)
abbrev Z0 : Stmt := (top 21)
def V2v (K : Frag) (CN CB : Addr) : Sp := fun vs H Q E => ∃ x y z, vs = [x, y, z] /\
 ((B6v 0 1 x /\ B6v 0 (10 ^ 60 - 1) y /\ B6v (-200) 200 z /\ ∀ n H', H n = none -> C8 H H' -> A5b CN H' n (.str "plain") x y z -> Q (.ref n) H') \/
  ((D5b K H 0 1 x \/ (B6v 0 1 x /\ (D5b K H 0 (10 ^ 60 - 1) y \/ (B6v 0 (10 ^ 60 - 1) y /\ D5b K H (-200) 200 z)))) /\ E (.ref CB) none H))
theorem A0jc : C5 Q32 Q32 (A2 B7h) := scK
theorem b01 : C0k 0 1 := by unfold C0k; decide +kernel
theorem b60 : C0k 0 (10 ^ 60 - 1) := by unfold C0k; decide +kernel
theorem b200 : C0k (-200) 200 := by unfold C0k; decide +kernel
theorem Y5g {f f1 f2 fI CN CB : Addr} {fd fd1 fd2 fdI : FuncData} (D : Def K mg "plain" Q32 B7h f fd) (D_need_between : Def K mg "need_between" Q6 A2s f1 fd1) (D2 : Def K mg "is_between" Q6 C8e f2 fd2)
   (O : Own mg) (T : Kit K) (B : Err K mg "BadNumber" CB) (N : Num K mg CN) (M : C0n P w K mg base CN fI fdI) : sI P w K mg base 3 f fd Q32 (V2v K CN CB) := by
 have G_need_between := C9d (P := P) (w := w) (base := base) D_need_between D2 O T B
 refine D.F.okE A0jc (fun vs H Q E h => ?_) (fun X cdv A outer s H vs Q E hX hr hx h => ?_)
 . obtain ⟨x, y, z, rfl, _⟩ := h
   rfl
 subst hX
 obtain ⟨x, y, z, rfl, h⟩ := h
 refine ⟨_, (A3 (V7 (C9 D_need_between G_need_between hr hx (A0 (pv 0) (A0 A1 (A0 A1 A5))))) (A3 (V7 (C9 D_need_between G_need_between hr hx (A0 (pv 1) (A0 A1 (A0 (A9 J8 (A9 Y5j A1 A1) A1) A5))))) (A3 (V7 (C9 D_need_between G_need_between hr hx (A0 (pv 2) (A0 (B1e A4m A1) (A0 A1 A5))))) (A6 (B0 (G2c M.m M.g hr rfl N.g M.b .nil Y6r (A0 D5 (A0 (pv 0) (A0 (pv 1) (A0 (pv 2) A5)))))))))), ?_⟩
 have pw : CPow 10 60 := ⟨by decide, by decide, by decide⟩
 rcases h with ⟨⟨i1, rfl, l1, u1⟩, ⟨i2, rfl, l2, u2⟩, ⟨i3, rfl, l3, u3⟩, k⟩ | ⟨bad, k⟩
 . refine ⟨_, rfl, _, _, _, rfl, b01, .inl ⟨⟨i1, rfl, l1, u1⟩, ?_⟩⟩
   refine ⟨_, rfl, _, _, rfl, rfl, pw, _, _, rfl, rfl, _, _, _, rfl, b60, .inl ⟨⟨i2, rfl, l2, u2⟩, ?_⟩⟩
   refine ⟨_, rfl, _, rfl, _, _, _, rfl, b200, .inl ⟨⟨i3, rfl, l3, u3⟩, ?_⟩⟩
   exact ⟨_, rfl, _, rfl, _, rfl, made k⟩
 rcases bad with bad | ⟨⟨i1, rfl, l1, u1⟩, bad | ⟨⟨i2, rfl, l2, u2⟩, bad⟩⟩
 . exact ⟨_, rfl, _, _, _, rfl, b01, .inr ⟨bad, k⟩⟩
 . refine ⟨_, rfl, _, _, _, rfl, b01, .inl ⟨⟨i1, rfl, l1, u1⟩, ?_⟩⟩
   exact ⟨_, rfl, _, _, rfl, rfl, pw, _, _, rfl, rfl, _, _, _, rfl, b60, .inr ⟨bad, k⟩⟩
 refine ⟨_, rfl, _, _, _, rfl, b01, .inl ⟨⟨i1, rfl, l1, u1⟩, ?_⟩⟩
 refine ⟨_, rfl, _, _, rfl, rfl, pw, _, _, rfl, rfl, _, _, _, rfl, b60, .inl ⟨⟨i2, rfl, l2, u2⟩, ?_⟩⟩
 exact ⟨_, rfl, _, rfl, _, _, _, rfl, b200, .inr ⟨bad, k⟩⟩
def V4h (K : Frag) (CN CB : Addr) : Sp := fun vs H Q E => ∃ x, vs = [x] /\ ((B6v 0 1 x /\ ∀ n H', H n = none -> C8 H H' -> A5b CN H' n (.str "end") x (.int 0) (.int 0) -> Q (.ref n) H') \/ (D5b K H 0 1 x /\ E (.ref CB) none H))
theorem A0yq : C5 ["sign"] ["sign"] (A2 G1r) := scK
theorem A0rn {f f1 f2 fI CN CB : Addr} {fd fd1 fd2 fdI : FuncData} (D : Def K mg "end" ["sign"] G1r f fd) (D_need_between : Def K mg "need_between" Q6 A2s f1 fd1) (D2 : Def K mg "is_between" Q6 C8e f2 fd2)
   (O : Own mg) (T : Kit K) (B : Err K mg "BadNumber" CB) (N : Num K mg CN) (M : C0n P w K mg base CN fI fdI) : sI P w K mg base 3 f fd ["sign"] (V4h K CN CB) := by
 have G_need_between := C9d (P := P) (w := w) (base := base) D_need_between D2 O T B
 refine D.F.okE A0yq (fun vs H Q E h => ?_) (fun X cdv A outer s H vs Q E hX hr hx h => ?_)
 . obtain ⟨x, rfl, _⟩ := h
   rfl
 subst hX
 obtain ⟨x, rfl, h⟩ := h
 refine ⟨_, (A3 (V7 (C9 D_need_between G_need_between hr hx (A0 (pv 0) (A0 A1 (A0 A1 A5))))) (A6 (B0 (G2c M.m M.g hr rfl N.g M.b .nil Y6r (A0 D5 (A0 (pv 0) (A0 A1 (A0 A1 A5)))))))), ?_⟩
 rcases h with ⟨⟨i1, rfl, l1, u1⟩, k⟩ | ⟨bad, k⟩
 . refine ⟨_, rfl, _, _, _, rfl, b01, .inl ⟨⟨i1, rfl, l1, u1⟩, ?_⟩⟩
   exact ⟨_, rfl, made k⟩
 exact ⟨_, rfl, _, _, _, rfl, b01, .inr ⟨bad, k⟩⟩
def A1w (CN : Addr) : Sp := fun vs H Q _ => vs = [] /\ ∀ n H', H n = none -> C8 H H' -> A5b CN H' n (.str "none") (.int 0) (.int 0) (.int 0) -> Q (.ref n) H'
theorem V5x : C5 [] [] (A2 Z0) := scK
theorem U0d {f fI CN : Addr} {fd fdI : FuncData} (D : Def K mg "nothing" [] Z0 f fd) (N : Num K mg CN) (M : C0n P w K mg base CN fI fdI) : sI P w K mg base 3 f fd [] (A1w CN) := by
 refine D.F.okE V5x (fun vs H Q E h => ?_) (fun X cdv A outer s H vs Q E hX hr hx h => ?_)
 . obtain ⟨rfl, _⟩ := h
   rfl
 subst hX
 obtain ⟨rfl, k⟩ := h
 refine ⟨_, (A6 (B0 (G2c M.m M.g hr rfl N.g M.b .nil Y6r (A0 D5 (A0 A1 (A0 A1 (A0 A1 A5))))))), ?_⟩
 exact made k
abbrev C9y : Stmt := (top 23)
def Y4g (CN : Addr) : Sp := fun vs H Q _ => ∃ n k s f p, vs = [.ref n] /\ A5b CN H n k s (.int f) (.int p) /\ f.natAbs < 2 ^ 300 /\ Q (.int (p + ((Str.ofString (toString f)).length : Nat) - 1)) H
theorem A0tb : C5 ["number"] ["number"] (A2 C9y) := scK
theorem A0jv {f CN : Addr} {fd : FuncData} (D : Def K mg "lead_of" ["number"] C9y f fd) (O : Own mg) (N : Num K mg CN) : sI P w K mg base 1 f fd ["number"] (Y4g CN) := by
 refine D.F.okE A0tb (fun vs H Q E h => ?_) (fun X cdv A outer s H vs Q E hX hr hx h => ?_)
 . obtain ⟨n, a, b, c, d, rfl, _⟩ := h
   rfl
 subst hX
 obtain ⟨n, a, b, fg, pw, rfl, ⟨dx, e⟩, hf, k⟩ := h
 refine ⟨_, (A6 (B0 (A9 J8 (A9 J4 (D6 (pv 0) rfl) (J3 G2j (by rfl) O.len_ PySem.boot_len (A0 (A0k G2p (by rfl) O.str_ boot_str (A0 (D6 (pv 0) rfl) A5)) A5))) A1))), ?_⟩
 have lg : fg.natAbs.log2 < 1920 := Nat.lt_trans (A0s hf (by decide)) (by decide)
 exact ⟨_, rfl, n, CN, dx, _, _, rfl, e, N.cl, N.n4, A6u _ _ _ _, _, rfl, n, CN, dx, _, _, rfl, e, N.cl, N.n3, B6n _ _ _ _, _, rfl, lg, _, rfl, int_text_fits lg, _, _, rfl, rfl, _, _, rfl, rfl, k⟩
abbrev A0d : Stmt := (top 2)
abbrev A0q : Stmt := (top 3)
theorem C0e {x k : Nat} (h : x < 2 ^ k) (hk : k <= 1048576) : Builtin.Int.intBits (x : Int) <= 2 ^ 20 := by
 unfold Builtin.Int.intBits
 split
 . exact Nat.zero_le _
 have z : (x : Int).natAbs ≠ 0 := by
   intro z
   rename_i hz
   exact hz (by simpa using z)
 have : (x : Int).natAbs.log2 < k := (Nat.log2_lt z).mpr h
 have e : (2 : Nat) ^ 20 = 1048576 := by decide
 omega
theorem C8a {b s j n : Nat} (hb : b < 2 ^ s) (hj : j <= n) (hn : n * s < 1048576) : Builtin.Int.intBits ((b ^ j : Nat) : Int) <= 2 ^ 20 := by
 refine C0e (k := n * s + 1) ?_ hn
 have a : b ^ j <= (2 ^ s) ^ j := Nat.pow_le_pow_left (Nat.le_of_lt hb) j
 have c : (2 ^ s) ^ j <= 2 ^ (n * s) := by
   rw [<- Nat.pow_mul, Nat.mul_comm n s]
   exact Nat.pow_le_pow_right (by decide) (Nat.mul_le_mul_left s hj)
 have d : 2 ^ (n * s) < 2 ^ (n * s + 1) := Nat.pow_lt_pow_right (by decide) (by omega)
 exact Nat.lt_of_le_of_lt a (Nat.lt_of_le_of_lt c d)
theorem C1k {b s i j n : Nat} (hb : b < 2 ^ s) (hi : i <= n) (hj : j <= n) (hn : n * s < 1048576) : IntMulOk ((b ^ i : Nat) : Int) ((b ^ j : Nat) : Int) := IntMulOk.of_bits (C8a hb hi hn) (C8a hb hj hn)
def B1y : Sp := fun vs H Q _ => ∃ b n s : Nat, vs = [.int (b : Int), .int (n : Int)] /\ b < 2 ^ s /\ n * s < 1048576 /\ Q (.int ((b ^ n : Nat) : Int)) H
theorem scProductOf : C5 ["whole", "count", "product"] Q21 (A2 A0d) := scK
theorem C0c {f : Addr} {fd : FuncData} (D : Def K mg "product_of" Q21 A0d f fd) : sI P w K mg base 1 f fd Q21 B1y := by
 refine A8.up (D.F.ok scProductOf (fun vs H Q E h => ?_) (fun cdv A outer s H vs Q E hr h => ?_))
 . obtain ⟨b, n, z, rfl, _⟩ := h
   rfl
 obtain ⟨b, n, z, rfl, hb, hn, k⟩ := h
 refine ⟨_, (A3 (D3 (i := 2) scProductOf.nd rfl (Or.inl rfl) A1) (A3 (A2q PassesOwn.never (C7 A7b (pv 1) A1 (C6 _)) (A3 (G4 (C7 G2 (A9 J0 (pv 1) A1) A1 (C6 _)) (A6 (D3 (i := 2) scProductOf.nd rfl (Or.inl rfl) (A9 G5 (pv 2) (pv 0)))) D0) (A3 (D3 (i := 0) scProductOf.nd rfl (Or.inl rfl) (A9 G5 (pv 0) (pv 0))) (A6 (D3 (i := 1) scProductOf.nd rfl (Or.inl rfl) (A9 D8 (pv 1) A1)))))) (A6 (B0 (pv 2))))), ?_⟩
 have d2 : (0 : Int) < 2 /\ (2 : Int).natAbs.log2 < 9000 := ⟨by decide, by decide +kernel⟩
 refine A0z (fun σ H2 => H2 = H /\ ∃ i m c : Nat, m + i * c = n /\ σ = [si ((b ^ i : Nat) : Int), si (c : Int), si ((b ^ m : Nat) : Int)]) (fun σ _ => match σ with | [_, some (.int c), _] => c.toNat | _ => 0) ?_ ?_ ?_
 . exact ⟨rfl, 1, 0, n, by omega, by rw [Nat.pow_one]; rfl⟩
 . rintro σ H2 ⟨rfl, i, m, c, hc, rfl⟩
   refine ⟨_, rfl, _, _, rfl, rfl, _, rfl, J1 (fun h0 => ?_) (fun h0 => ?_)⟩
   . have c1 : 1 <= c := by
       have : (0 : Int) < c := h0
       omega
     have hi : i <= n := Nat.le_trans (Nat.le_mul_of_pos_right i c1) (by omega)
     have hm : m <= n := by omega
     have sq : ((b ^ i : Nat) : Int) * ((b ^ i : Nat) : Int) = ((b ^ (2 * i) : Nat) : Int) := by rw [Nat.two_mul, Nat.pow_add]; rfl
     have lt : ((c : Int) / 2).toNat < (c : Int).toNat := by omega
     refine ⟨_, rfl, _, _, rfl, rfl, d2.1, rfl, _, rfl, J1 (fun ho => ?_) (fun he => ?_)⟩
     . have ho : (c : Int) % 2 = 1 := by injection ho
       have mu : ((b ^ m : Nat) : Int) * ((b ^ i : Nat) : Int) = ((b ^ (m + i) : Nat) : Int) := by rw [Nat.pow_add]; rfl
       refine ⟨_, rfl, _, rfl, _, _, rfl, rfl, C1k hb hm hi hn, _, rfl, _, rfl, _, _, rfl, rfl, C1k hb hi hi hn, _, rfl, _, _, rfl, rfl, d2, ⟨rfl, 2 * i, m + i, c / 2, ?_, ?_⟩, lt⟩
       . have e : i * c = i * (2 * (c / 2) + 1) := congrArg (i * ·) (by omega)
         rw [Nat.mul_add, Nat.mul_one, <- Nat.mul_assoc, Nat.mul_comm i 2] at e
         omega
       . show [si (((b ^ i : Nat) : Int) * ((b ^ i : Nat) : Int)), si ((c : Int) / 2), si (((b ^ m : Nat) : Int) * ((b ^ i : Nat) : Int))] = _
         rw [sq, mu]
         rfl
     . have he : ¬ (c : Int) % 2 = 1 := fun z => he (congrArg V.int z)
       refine ⟨_, rfl, _, rfl, _, _, rfl, rfl, C1k hb hi hi hn, _, rfl, _, _, rfl, rfl, d2, ⟨rfl, 2 * i, m, c / 2, ?_, ?_⟩, lt⟩
       . have e : i * c = i * (2 * (c / 2)) := congrArg (i * ·) (by omega)
         rw [<- Nat.mul_assoc, Nat.mul_comm i 2] at e
         omega
       . show [si (((b ^ i : Nat) : Int) * ((b ^ i : Nat) : Int)), si ((c : Int) / 2), si ((b ^ m : Nat) : Int)] = _
         rw [sq]
         rfl
   . have c0 : c = 0 := by
       have : ¬ (0 : Int) < c := h0
       omega
     subst c0
     have hm : m = n := by omega
     subst hm
     exact ⟨_, rfl, k⟩
 rintro σ H2 Q1 Q2 hQ ⟨v, e, i, j, e1, e2, b, e3, q⟩
 exact ⟨v, e, i, j, e1, e2, b, e3, hQ _ _ q⟩
def A2h : Sp := fun vs H Q _ => ∃ n : Nat, vs = [.int (n : Int)] /\ n <= 4000 /\ Q (.int ((10 ^ n : Nat) : Int)) H
theorem A0jw : C5 ["count"] ["count"] (A2 A0q) := scK
theorem Y6s {f f1 : Addr} {fd fd1 : FuncData} (D : Def K mg "ten_to" ["count"] A0q f fd) (D_product_of : Def K mg "product_of" Q21 A0d f1 fd1) (G_product_of : sI P w K mg base 1 f1 fd1 Q21 B1y) : sI P w K mg base 2 f fd ["count"] A2h := by
 refine A8.up (D.F.ok A0jw (fun vs H Q E h => ?_) (fun cdv A outer s H vs Q E hr h => ?_))
 . obtain ⟨n, rfl, _⟩ := h
   rfl
 obtain ⟨n, rfl, hn, k⟩ := h
 have hx : U1 (A1x CX0 P w K mg base ["count"] "ten_to" (A2 A0q) f cdv A outer s H E).nox EKF := Y1
 refine ⟨_, (A6 (B0 (C9 D_product_of G_product_of hr hx (A0 A1 (A0 (pv 0) A5))))), ?_⟩
 exact ⟨_, rfl, 10, n, 4, rfl, by decide, by omega, k⟩
inductive Kd where
 | plain | end_ | none
def Kd.str : Kd -> Str
 | .plain => "plain"
 | .end_ => "end"
 | .none => "none"
theorem Kd.str_inj {a b : Kd} (h : a.str = b.str) : a = b := by
 cases a <;> cases b <;> first | rfl | exact absurd h (by decide +kernel)
structure Nm where
 k : Kd
 s : Int
 f : Int
 p : Int
def Nm.vs (x : Nm) : List V := [.str x.k.str, .int x.s, .int x.f, .int x.p]
structure Nm.Ok (x : Nm) : Prop where
 s0 : 0 <= x.s
 s1 : x.s <= 1
 f0 : 0 <= x.f
 f1 : x.f <= 10 ^ 60 - 1
 p0 : -200 <= x.p
 p1 : x.p <= 200
def V1 (CN : Addr) (H : Hp) (n : Addr) (x : Nm) : Prop := A5b CN H n (.str x.k.str) (.int x.s) (.int x.f) (.int x.p)
theorem V1.same {CN : Addr} {H H' : Hp} {n : Addr} {x : Nm} (h : V1 CN H n x) (e : C8 H H') : V1 CN H' n x := A5b.same h e
theorem V1.exc {CN : Addr} {H H' : Hp} {n D : Addr} {l : List V} {x : Nm} (h : V1 CN H n x) (hD : H D = some (.lst l)) (e : Exc1 D H H') : V1 CN H' n x := by
 obtain ⟨dx, z⟩ := h
 exact ⟨dx, e _ _ z fun q => by rw [q, hD] at z; cases z⟩
structure Y8j (CN : Addr) (H : Hp) (l : Addr) (ns : List (Addr × Nm)) : Prop where
 l : H l = some (.lst (ns.map fun p => V.ref p.1))
 n : ∀ p ∈ ns, V1 CN H p.1 p.2
def A4 (n : Int) : Int := ((10 ^ n.toNat : Nat) : Int)
theorem D4 (n : Int) : 0 < A4 n := Int.natCast_pos.mpr (Nat.pow_pos (by decide))
theorem neS {a b : Kd} (h : ¬ V.str a.str = V.str b.str) : a ≠ b := fun q => h (by rw [q])
theorem eqS {a b : Kd} (h : V.str a.str = V.str b.str) : a = b := Kd.str_inj (by injection h)
theorem D9v {d : Int} (h : d <= 4000) : Builtin.Int.intBits (A4 d) <= 2 ^ 20 := C8a (b := 10) (s := 4) (n := 4000) (by decide) (by omega) (by decide)
def Z4 (left low : Int) : Int := (if decide (0 < left) = true then 1 else 0) + (if decide (low <= 2 * left) = true then 1 else 0) + (if decide (low < 2 * left) = true then 1 else 0)
theorem maxT (s : Int) : (if (0 : Int) > s then 0 else s) = ((s.toNat : Nat) : Int) := by
 by_cases h : (0 : Int) > s
 . rw [if_pos h]; omega
 rw [if_neg h]; omega
def A0w (t b s : Int) : Prop := b * A4 (-s) <= t * A4 s /\ t * A4 s < 10 * (b * A4 (-s))
theorem A0e {s r : Int} (h : s <= r) : A4 r * A4 (-s) = A4 s * A4 (-r) * A4 (r - s) := by
 unfold A4
 rw [<- Int.natCast_mul, <- Int.natCast_mul, <- Int.natCast_mul, <- Nat.pow_add, <- Nat.pow_add, <- Nat.pow_add]
 congr 2
 omega
theorem V4m {d : Int} (h : 1 <= d) : 10 <= A4 d := by
 unfold A4
 have : 10 ^ 1 <= 10 ^ d.toNat := Nat.pow_le_pow_right (by decide) (by omega)
 omega
theorem V8 {a b : Int} (h : a <= b) : A4 a <= A4 b := by
 unfold A4
 exact Int.ofNat_le.mpr (Nat.pow_le_pow_right (by decide) (by omega))
theorem V4b {t b s r : Int} (hb : 0 < b) (h1 : A0w t b s) (h2 : A0w t b r) : r <= s := by
 apply Classical.byContradiction
 intro h
 have hs : s <= r := by omega
 have c := A0e hs
 have g := V4m (d := r - s) (by omega)
 have p1 := D4 (-s)
 have p2 := D4 (-r)
 have l1 : 0 < b * A4 (-s) := Int.mul_pos hb p1
 have l2 : 0 < b * A4 (-r) := Int.mul_pos hb p2
 have e : t * A4 r * (b * A4 (-s)) = t * A4 s * (b * A4 (-r)) * A4 (r - s) := by
   calc t * A4 r * (b * A4 (-s)) = t * b * (A4 r * A4 (-s)) := by ac_rfl
     _ = t * b * (A4 s * A4 (-r) * A4 (r - s)) := by rw [c]
     _ = t * A4 s * (b * A4 (-r)) * A4 (r - s) := by ac_rfl
 have a1 : t * A4 r * (b * A4 (-s)) < 10 * (b * A4 (-r)) * (b * A4 (-s)) := Int.mul_lt_mul_of_pos_right h2.2 l1
 have hp : 0 < t * A4 s := Int.lt_of_lt_of_le l1 h1.1
 have a2 : t * A4 s * (b * A4 (-r)) * 10 <= t * A4 s * (b * A4 (-r)) * A4 (r - s) := Int.mul_le_mul_of_nonneg_left g (Int.le_of_lt (Int.mul_pos hp l2))
 have a3 : b * A4 (-s) * (b * A4 (-r)) <= t * A4 s * (b * A4 (-r)) := Int.mul_le_mul_of_nonneg_right h1.1 (Int.le_of_lt l2)
 have e2 : 10 * (b * A4 (-r)) * (b * A4 (-s)) = b * A4 (-s) * (b * A4 (-r)) * 10 := by ac_rfl
 have a4 : b * A4 (-s) * (b * A4 (-r)) * 10 <= t * A4 s * (b * A4 (-r)) * 10 := Int.mul_le_mul_of_nonneg_right a3 (by decide)
 rw [e] at a1
 rw [e2] at a1
 exact absurd (Int.lt_of_lt_of_le a1 (Int.le_trans a4 a2)) (Int.lt_irrefl _)
theorem A0ge {t b s r : Int} (hb : 0 < b) (h1 : A0w t b s) (h2 : A0w t b r) : s = r := Int.le_antisymm (V4b hb h2 h1) (V4b hb h1 h2)
def Sz (t : Int) : Prop := 1 <= t /\ t < A4 1000
theorem V4g (n : Nat) : 10 ^ n <= 2 ^ (4 * n) := by
 rw [Nat.pow_mul]
 exact Nat.pow_le_pow_left (by decide) n
theorem J4b (n : Nat) : 10 ^ (3 * n) <= 2 ^ (10 * n) := by
 rw [Nat.pow_mul, Nat.pow_mul]
 exact Nat.pow_le_pow_left (by decide) n
theorem Sz.nat {t : Int} (h : Sz t) : ∃ n : Nat, t = (n : Int) /\ 1 <= n /\ n < 10 ^ 1000 := by
 obtain ⟨n, rfl⟩ := Int.eq_ofNat_of_zero_le (show 0 <= t by have := h.1; omega)
 exact ⟨n, rfl, Int.ofNat_le.mp h.1, Int.ofNat_lt.mp h.2⟩
theorem G2b {t s : Int} (ht : Sz t) (h : s <= 1500) : ∃ n : Nat, t * A4 s = (n : Int) /\ n < 10 ^ 2502 := by
 obtain ⟨n, rfl, _, hn⟩ := ht.nat
 refine ⟨n * 10 ^ s.toNat, rfl, ?_⟩
 have a : 10 ^ s.toNat <= 10 ^ 1502 := Nat.pow_le_pow_right (by decide) (by omega)
 calc n * 10 ^ s.toNat <= n * 10 ^ 1502 := Nat.mul_le_mul_left n a
   _ < 10 ^ 1000 * 10 ^ 1502 := Nat.mul_lt_mul_of_pos_right hn (Nat.pow_pos (by decide))
   _ = 10 ^ 2502 := by rw [<- Nat.pow_add]
theorem J4f {n : Nat} (h : n < 10 ^ 2502) : Builtin.Int.intBits (n : Int) <= 2 ^ 20 := C0e (k := 4 * 2502) (Nat.lt_of_lt_of_le h (V4g 2502)) (by decide)
theorem C7m {t : Int} (h : Sz t) : Builtin.Int.intBits t <= 2 ^ 20 := by
 obtain ⟨n, rfl, _, hn⟩ := h.nat
 exact C0e (k := 4 * 1000) (Nat.lt_of_lt_of_le hn (V4g 1000)) (by decide)
theorem B1c {t s : Int} (ht : Sz t) (h : s <= 1500) : IntMulOk t (A4 s) := IntMulOk.of_bits (C7m ht) (D9v (by omega))
theorem J9v {b s : Int} (hb : Sz b) (h : s <= 1500) : (b * A4 s).natAbs.log2 < 9000 := by
 obtain ⟨n, e, hn⟩ := G2b hb h
 rw [e]
 have : n < 2 ^ 8340 := Nat.lt_of_lt_of_le hn (J4b 834)
 exact Nat.lt_trans (A0s (i := (n : Int)) (k := 8340) (by rw [Int.natAbs_natCast]; exact this) (by decide)) (by decide)
def whI (t b s : Int) : Int := t * A4 s / (b * A4 (-s))
def ptI (t b s : Int) : Int := Z4 (t * A4 s - whI t b s * (b * A4 (-s))) (b * A4 (-s))
theorem V3j {t b s : Int} (hb : 0 < b) : 0 <= t * A4 s - whI t b s * (b * A4 (-s)) /\ t * A4 s - whI t b s * (b * A4 (-s)) < b * A4 (-s) := by
 have l := Int.mul_pos hb (D4 (-s))
 have e := Int.emod_add_mul_ediv (t * A4 s) (b * A4 (-s))
 have a := Int.emod_nonneg (t * A4 s) (Int.ne_of_gt l)
 have c := Int.emod_lt_of_pos (t * A4 s) l
 have e2 : whI t b s * (b * A4 (-s)) = b * A4 (-s) * (t * A4 s / (b * A4 (-s))) := Int.mul_comm _ _
 omega
theorem A0za {t b s : Int} (ht : Sz t) (hb : Sz b) (h1 : -1500 <= s) (h2 : s <= 1500) : IntMulOk (whI t b s) (b * A4 (-s)) := by
 obtain ⟨n, e, hn⟩ := G2b hb (s := -s) (by omega)
 obtain ⟨k, e', hk⟩ := G2b ht h2
 unfold whI
 rw [e, e']
 exact IntMulOk.of_bits (J4f (Nat.lt_of_le_of_lt (Nat.div_le_self k n) hk)) (J4f hn)
abbrev A8h : Stmt := (J2 (top 6) 0)
structure G2r (K : Frag) (mg : Str -> Option Value) (CR CE : Addr) : Prop where
 g : mg "Ratio" = some (.ref CR)
 ge : mg "Exact" = some (.ref CE)
 cl : Cls K CR
 n_top : Y6 K CR "top"
 n_bottom : Y6 K CR "bottom"
 n_power : Y6 K CR "power"
 ca : findIn K (.ref CR) "__class__" = some (some (.builtin "object.__class__"))
 sn : specialIn K (.builtin "object.__class__") "__get__" = some (some (.builtin "getset_descriptor.__get__"))
 tk : takesIn K (.builtin "object.__class__") = some true
 ob : mroIn K CR (.type "object") = some true
 up : kitOne K (.ref CR) (.ref CE) = some true
def G1d (t b n : V) : List (Str × V) := V6 "power" n (V6 "bottom" b (V6 "top" t []))
theorem C8k (t b n : V) (x : Str) : (G1d t b n).lookup x = if x = "power" then some n else if x = "bottom" then some b else if x = "top" then some t else none := by
 unfold G1d
 rw [G8, G8, G8]
 rfl
theorem V3u (t b n : V) : (G1d t b n).lookup ("top" : Str) = some t := by rw [C8k, if_neg (by decide +kernel), if_neg (by decide +kernel), if_pos rfl]
theorem C9x (t b n : V) : (G1d t b n).lookup ("bottom" : Str) = some b := by rw [C8k, if_neg (by decide +kernel), if_pos rfl]
theorem D9g (t b n : V) : (G1d t b n).lookup ("power" : Str) = some n := by rw [C8k, if_pos rfl]
theorem G2d (t b n : V) : (G1d t b n).lookup ("first" : Str) = none := by rw [C8k, if_neg (by decide +kernel), if_neg (by decide +kernel), if_neg (by decide +kernel)]
theorem D9s (t b n : V) : (G1d t b n).lookup ("at" : Str) = none := by rw [C8k, if_neg (by decide +kernel), if_neg (by decide +kernel), if_neg (by decide +kernel)]
def B1z (CR : Addr) (H : Hp) (x : Addr) (t b n : Int) : Prop := ∃ dx, H x = some (.ins CR dx (G1d (.int t) (.int b) (.int n)))
theorem B1z.same {CR : Addr} {H H' : Hp} {x : Addr} {t b n : Int} (h : B1z CR H x t b n) (s : C8 H H') : B1z CR H' x t b n := by
 obtain ⟨dx, e⟩ := h
 exact ⟨dx, s _ _ e⟩
def G2m (CR : Addr) : Sp := fun vs H Q _ => ∃ (p dx : Addr) (t b n : V), vs = [.ref p, t, b, n] /\ H p = some (.ins CR dx []) /\ ∀ H', H' p = some (.ins CR dx (G1d t b n)) -> Exc p H H' -> Q .non H'
theorem A0gg : C5 Q22 Q22 (A2 A8h) := scK
theorem Y7c {f CR CE : Addr} {fd : FuncData} {dV : Value} (F : V8a K "__init__" "Ratio.__init__" A8h dV f fd) (R : G2r K mg CR CE) : sI P w K mg base 1 f fd Q22 (G2m CR) := by
 refine F.okE A0gg (fun vs H Q E h => ?_) (fun X cdv A outer s H vs Q E hX hr hx h => ?_)
 . obtain ⟨p, dx, a, b, c, rfl, _⟩ := h
   rfl
 subst hX
 obtain ⟨p, dx, a, b, c, rfl, hp, k⟩ := h
 refine ⟨_, (A3 (Z6 (pv 0) (pv 1) rfl) (A3 (Z6 (pv 0) (pv 2) rfl) (A6 (Z6 (pv 0) (pv 3) rfl)))), ?_⟩
 have l : ∀ (fs : List (Str × V)) (f : Str) (v : V) (n : Nat), fs.length <= n -> (V6 f v fs).length <= n + 1 := fun fs f v n h => Nat.le_trans (A0x f v fs) (Nat.succ_le_succ h)
 refine ⟨_, rfl, _, rfl, p, CR, dx, [], rfl, hp, R.cl, R.n_top, (by show 0 < 1000; decide), ?_⟩
 refine ⟨_, rfl, _, rfl, p, CR, dx, _, rfl, A7, R.cl, R.n_bottom, Nat.lt_of_le_of_lt (l _ _ _ 0 (Nat.le_refl _)) (by decide), ?_⟩
 refine ⟨_, rfl, _, rfl, p, CR, dx, _, rfl, A7, R.cl, R.n_power, Nat.lt_of_le_of_lt (l _ _ _ 1 (l _ _ _ 0 (Nat.le_refl _))) (by decide), ?_⟩
 refine k _ A7 fun b o e hb => ?_
 rw [G6 hb, G6 hb, G6 hb]
 exact e
def A7c (CR : Addr) : Sp := fun vs H Q _ => ∃ x t b n, vs = [.ref x] /\ B1z CR H x t b n /\ Sz t /\ Sz b /\ ∀ f H', C8 H H' -> A0w t b (n - f) -> Q (.int f) H'
def C9q (CR : Addr) : Sp := fun vs H Q _ => ∃ x t b n p, vs = [.ref x, .int p] /\ B1z CR H x t b n /\ Sz t /\ Sz b /\ -1500 <= n - p /\ n - p <= 1500 /\
 ∀ q H', C8 H H' -> H q = none -> H' q = some (.tup [.int (whI t b (n - p)), .int (ptI t b (n - p))]) -> Q (.ref q) H'
structure J5p (P : Program) (w : World) (K : Frag) (mg : Str -> Option Value) (base : Heap) (CR fI : Addr) (fdI : FuncData) (d0 : Value) (gP : List Value -> List Value -> List Value) (vP : List V -> List V -> List V) : Prop where
 m : Mk K CR fI
 g : sI P w K mg base 1 fI fdI Q22 (G2m CR)
 b3 : Binds K fdI Q22 []
 b2 : Binds K fdI Q22 [d0]
 r0 : V0 (.int 0) d0
 kP : Y8k K fdI Q22 ["power"] gP vP
 eP : ∀ x a b c, vP [x, a, b] [c] = [x, a, b, c]
structure RatM (P : Program) (w : World) (K : Frag) (mg : Str -> Option Value) (base : Heap) (CR f1 f2 : Addr) (fd1 fd2 : FuncData) : Prop where
 m1 : Y5 K CR "first" f1
 g1 : sI P w K mg base 4 f1 fd1 ["self"] (A7c CR)
 b1 : Binds K fd1 ["self"] []
 m2 : Y5 K CR "at" f2
 g2 : sI P w K mg base 3 f2 fd2 Q15 (C9q CR)
 b2 : Binds K fd2 Q15 []
theorem J5e {CR x dx : Addr} {H : Hp} {Q : VK} {E : XK} {t b n : Int} (n1 : H x = none) (n2 : H dx = none) (ne : dx ≠ x) (k : ∀ H', C8 H H' -> B1z CR H' x t b n -> Q .non H') :
   G2m CR [.ref x, .int t, .int b, .int n] (upd (upd H dx (.own x)) x (.ins CR dx [])) Q E :=
 ⟨x, dx, _, _, _, rfl, A7, fun H' e s => k H' (fun c o z => s c o (by rw [G6 (G7 z n1), G6 (G7 z n2)]; exact z) (G7 z n1)) ⟨dx, e⟩⟩
abbrev A5p : Stmt := (top 8)
def C9b : Sp := fun vs H Q _ => ∃ l m : Int, vs = [.int (2 * l), .int m] /\ 0 <= l /\ 0 < m /\ Q (.int (Z4 l m)) H
theorem Y6c : C5 Q20 Q20 (A2 A5p) := scK
theorem A0gu {m : Int} (hm : 0 < m) : Z4 0 m = 0 := by
 unfold Z4
 rw [decide_eq_false (by omega : ¬ (0 : Int) < 0), decide_eq_false (by omega : ¬ m <= 2 * 0), decide_eq_false (by omega : ¬ m < 2 * 0)]
 rfl
theorem A0hg {l m : Int} (hl : 0 < l) (h : 2 * l < m) : Z4 l m = 1 := by
 unfold Z4
 rw [decide_eq_true hl, decide_eq_false (by omega : ¬ m <= 2 * l), decide_eq_false (by omega : ¬ m < 2 * l)]
 rfl
theorem A0js {l m : Int} (hl : 0 < l) (h : 2 * l = m) : Z4 l m = 2 := by
 unfold Z4
 rw [decide_eq_true hl, decide_eq_true (by omega : m <= 2 * l), decide_eq_false (by omega : ¬ m < 2 * l)]
 rfl
theorem A0gn {l m : Int} (hl : 0 < l) (h : m < 2 * l) : Z4 l m = 3 := by
 unfold Z4
 rw [decide_eq_true hl, decide_eq_true (by omega : m <= 2 * l), decide_eq_true h]
 rfl
theorem V6j {f : Addr} {fd : FuncData} (D : Def K mg "part_of" Q20 A5p f fd) : sI P w K mg base 1 f fd Q20 C9b := by
 refine A8.up (D.F.ok Y6c (fun vs H Q E h => ?_) (fun cdv A outer s H vs Q E hr h => ?_))
 . obtain ⟨l, m, rfl, _⟩ := h
   rfl
 obtain ⟨l, m, rfl, hl, hm, k⟩ := h
 refine ⟨_, (A3 (G4 (C7 G2 (pv 0) A1 (C6 _)) (A6 (B0 A1)) D0) (A3 (G4 (C7 B6s (pv 0) (pv 1) (C6 _)) (A6 (B0 A1)) D0) (A6 (B0 (V5 (C7 G2 (pv 0) (pv 1) (C6 _)) A1 A1))))), ?_⟩
 refine ⟨_, rfl, rfl, _, rfl, J1 (fun h0 => ?_) (fun h0 => ?_)⟩
 . have e : l = 0 := by
     have : 2 * l = 0 := by injection h0
     omega
   subst e
   rw [A0gu hm] at k
   exact k
 have hl' : 0 < l := by
   apply Classical.byContradiction
   intro z
   exact h0 (by rw [show l = 0 by omega]; rfl)
 refine ⟨_, rfl, _, rfl, _, _, rfl, rfl, _, rfl, J1 (fun h1 => ?_) (fun h1 => ?_)⟩
 . rw [A0hg hl' h1] at k
   exact k
 refine ⟨_, rfl, _, rfl, rfl, _, rfl, J1 (fun h2 => ?_) (fun h2 => ?_)⟩
 . rw [A0js hl' (by injection h2)] at k
   exact k
 rw [A0gn hl' (by
   have : 2 * l ≠ m := fun z => h2 (by rw [z])
   omega)] at k
 exact k
abbrev A6c : Stmt := (top 9)
theorem U0h (k : Nat) : 10 ^ (k * 301029995 / 10 ^ 9) <= 2 ^ k := by
 have hm : k * 301029995 / 10 ^ 9 * 28738 <= k * 8651 := by
   have : k * 301029995 / 10 ^ 9 * 10 ^ 9 <= k * 301029995 := Nat.div_mul_le_self _ _
   omega
 generalize k * 301029995 / 10 ^ 9 = m at hm
 have c : (10 : Nat) ^ 8651 <= 2 ^ 28738 := by decide +kernel
 have a : (10 ^ m) ^ 8651 <= (2 ^ k) ^ 8651 := by
   calc (10 ^ m) ^ 8651 = (10 ^ 8651) ^ m := by rw [<- Nat.pow_mul, <- Nat.pow_mul, Nat.mul_comm]
     _ <= (2 ^ 28738) ^ m := Nat.pow_le_pow_left c m
     _ = 2 ^ (m * 28738) := by rw [<- Nat.pow_mul, Nat.mul_comm]
     _ <= 2 ^ (k * 8651) := Nat.pow_le_pow_right (by decide) hm
     _ = (2 ^ k) ^ 8651 := by rw [<- Nat.pow_mul]
 exact (Nat.pow_le_pow_iff_left (by decide)).mp a
def C7r : Sp := fun vs H Q _ => ∃ n : Nat, vs = [.int (n : Int)] /\ 1 <= n /\ n < 10 ^ 3000 /\ ∀ L : Nat, 10 ^ L <= n -> n < 10 ^ (L + 1) -> Q (.int (L : Int)) H
theorem scWLead : C5 ["whole", "lead", "beyond"] ["whole"] (A2 A6c) := scK
theorem Y7z {f f1 : Addr} {fd fd1 : FuncData} (D : Def K mg "whole_lead" ["whole"] A6c f fd) (D_ten_to : Def K mg "ten_to" ["count"] A0q f1 fd1) (G_ten_to : sI P w K mg base 2 f1 fd1 ["count"] A2h) : sI P w K mg base 3 f fd ["whole"] C7r := by
 refine A8.up (D.F.ok scWLead (fun vs H Q E h => ?_) (fun cdv A outer s H vs Q E hr h => ?_))
 . obtain ⟨n, rfl, _⟩ := h
   rfl
 obtain ⟨n, rfl, n1, n2, k⟩ := h
 have hx : U1 (A1x CX0 P w K mg base ["whole", "lead", "beyond"] "whole_lead" (A2 A6c) f cdv A outer s H E).nox EKF := Y1
 refine ⟨_, (A3 (B5 (D3 (i := 1) scWLead.nd rfl (Or.inl rfl) (A9 D8 (A9 G5 (A9 J8 (Y4v PySem.F.plainAttrs_int PySem.F.slot_int_bit_length PySem.F.type_int_bit_length B6r (pv 0)) A1) A1) (A9 Y5j A1 A1)))) (A3 (B5 (D3 (i := 2) scWLead.nd rfl (Or.inl rfl) (C9 D_ten_to G_ten_to hr hx (A0 (A9 J4 (pv 1) A1) A5)))) (A3 (B5 (A2q PassesOwn.never (C7 A0qw (pv 2) (pv 0) (C6 _)) (A3 (A0rk (i := 1) scWLead.nd rfl (Or.inl rfl) A1 A0sb) (A6 (D3 (i := 2) scWLead.nd rfl (Or.inl rfl) (A9 G5 (pv 2) A1)))))) (A6 (B0 (pv 1)))))), ?_⟩
 have mC : ∀ z n : Int, -(2 ^ 64) < n -> n < 2 ^ 64 -> IntMulOk z n := fun z n a b => A2u.ok (.inr ⟨a, b⟩)
 have pw : CPow 10 9 := ⟨by decide, by decide, by decide⟩
 have l3 : ∀ {L : Nat}, 10 ^ L <= n -> L < 3000 := fun hL => (Nat.pow_lt_pow_iff_right (by decide : 1 < 10)).mp (Nat.lt_of_le_of_lt hL n2)
 refine ⟨fun σ H' => H' = H /\ ∃ L : Nat, 10 ^ L <= n /\ σ = [si (n : Int), si (L : Int), none], ?_, ?_⟩
 . refine ⟨_, rfl, rfl, _, rfl, rfl, _, _, rfl, rfl, _, _, rfl, rfl, mC _ _ (by decide) (by decide), _, _, rfl, rfl, pw, _, _, rfl, rfl, ⟨by decide, by decide +kernel⟩, rfl, n.log2 * 301029995 / 10 ^ 9, ?_, ?_⟩
   . exact Nat.le_trans (U0h _) (Nat.log2_self_le (by omega))
   . have e : (Builtin.Int.intBits (n : Int) : Nat) = n.log2 + 1 := by
       unfold Builtin.Int.intBits
       rw [if_neg (by simp; omega)]
       rfl
     show [si (n : Int), si ((((Builtin.Int.intBits (n : Int) : Nat) : Int) - 1) * 301029995 / (10 ^ Int.toNat 9 : Int)), none] = _
     rw [e, show ((n.log2 + 1 : Nat) : Int) - 1 = (n.log2 : Int) by omega]
     rfl
 rintro σ H' ⟨rfl, L0, hL0, rfl⟩
 refine ⟨fun σ H2 => H2 = H' /\ ∃ L : Nat, 10 ^ L <= n /\ σ = [si (n : Int), si (L : Int), si ((10 ^ (L + 1) : Nat) : Int)], ?_, ?_⟩
 . have := l3 hL0
   exact ⟨_, rfl, _, _, rfl, rfl, L0 + 1, rfl, by omega, rfl, L0, hL0, rfl⟩
 rintro σ H2 ⟨rfl, L1, hL1, rfl⟩
 refine ⟨fun σ H3 => H3 = H2 /\ ∃ L : Nat, 10 ^ L <= n /\ n < 10 ^ (L + 1) /\ σ = [si (n : Int), si (L : Int), si ((10 ^ (L + 1) : Nat) : Int)], ?_, ?_⟩
 . refine A0z (fun σ H3 => H3 = H2 /\ ∃ L : Nat, 10 ^ L <= n /\ σ = [si (n : Int), si (L : Int), si ((10 ^ (L + 1) : Nat) : Int)]) (fun σ _ => match σ with | [_, some (.int c), _] => n - c.toNat | _ => 0) ?_ ?_ ?_
   . exact ⟨rfl, L1, hL1, rfl⟩
   . rintro σ H3 ⟨rfl, L, hL, rfl⟩
     refine ⟨_, rfl, _, rfl, _, _, rfl, rfl, _, rfl, J1 (fun hle => ?_) (fun hgt => ?_)⟩
     . have hle : 10 ^ (L + 1) <= n := Int.ofNat_le.mp hle
       refine ⟨_, rfl, _, _, rfl, rfl, _, rfl, _, _, rfl, rfl, mC _ _ (by decide) (by decide), ⟨rfl, L + 1, hle, ?_⟩, ?_⟩
       . show [si (n : Int), si ((L : Int) + 1), si (((10 ^ (L + 1) : Nat) : Int) * 10)] = _
         rw [show ((10 ^ (L + 1) : Nat) : Int) * 10 = ((10 ^ (L + 1 + 1) : Nat) : Int) by rw [Nat.pow_succ 10 (L + 1)]; rfl]
         rfl
       have lt : L + 1 < 10 ^ (L + 1) := Nat.lt_pow_self (by decide)
       show n - ((L : Int) + 1).toNat < n - (L : Int).toNat
       omega
     . have hgt : ¬ 10 ^ (L + 1) <= n := fun z => hgt (Int.ofNat_le.mpr z)
       exact ⟨rfl, L, hL, by omega, rfl⟩
   . rintro σ H2 Q1 Q2 hQ ⟨v, e, v2, e4, i2, j2, e5, e6, b, e7, q⟩
     exact ⟨v, e, v2, e4, i2, j2, e5, e6, b, e7, hQ _ _ q⟩
 rintro σ H3 ⟨rfl, L, h1, h2, rfl⟩
 exact ⟨_, rfl, k L h1 h2⟩
abbrev C9k : Stmt := (J2 (top 6) 2)
abbrev A4y : Stmt := (J2 (top 6) 1)
theorem scRAt : C5 Q52 Q15 (A2 C9k) := scK
theorem A0sn {f f1 f2 CR CE : Addr} {fd fd1 fd2 : FuncData} (F : Fun K "at" "Ratio.at" C9k f fd) (D_ten_to : Def K mg "ten_to" ["count"] A0q f1 fd1) (G_ten_to : sI P w K mg base 2 f1 fd1 ["count"] A2h)
   (D_part_of : Def K mg "part_of" Q20 A5p f2 fd2) (G_part_of : sI P w K mg base 1 f2 fd2 Q20 C9b) (R : G2r K mg CR CE) (O : Own mg) : sI P w K mg base 3 f fd Q15 (C9q CR) := by
 refine A8.up (F.ok scRAt (fun vs H Q E h => ?_) (fun cdv A outer s H vs Q E hr h => ?_))
 . obtain ⟨x, t, b, n, p, rfl, _⟩ := h
   rfl
 obtain ⟨x, t, b, n, p, rfl, ⟨dx, e⟩, ht, hb, h1, h2, k⟩ := h
 have hx : U1 (A1x CX0 P w K mg base Q52 "Ratio.at" (A2 C9k) f cdv A outer s H E).nox EKF := Y1
 refine ⟨_, (A3 (D3 (i := 2) scRAt.nd rfl (Or.inl rfl) (A9 J8 (D6 (pv 0) rfl) (pv 1))) (A3 (D3 (i := 3) scRAt.nd rfl (Or.inl rfl) (A9 G5 (D6 (pv 0) rfl) (C9 D_ten_to G_ten_to hr hx (A0 (J3 (Y3 rfl) (by rfl) O.max_ boot_max (A0 (pv 2) (A0 A1 A5))) A5)))) (A3 (D3 (i := 4) scRAt.nd rfl (Or.inl rfl) (A9 G5 (D6 (pv 0) rfl) (C9 D_ten_to G_ten_to hr hx (A0 (J3 (Y3 rfl) (by rfl) O.max_ boot_max (A0 (B1e A4m (pv 2)) (A0 A1 A5))) A5)))) (A3 (D3 (i := 5) scRAt.nd rfl (Or.inl rfl) (A9 D8 (pv 3) (pv 4))) (A6 (B0 (U5 (A0 (pv 5) (A0 (C9 D_part_of G_part_of hr hx (A0 (A9 G5 A1 (A9 J8 (pv 3) (A9 G5 (pv 5) (pv 4)))) (A0 (pv 4) A5))) A5))))))))), ?_⟩
 have z2 : 2 <= sizeLine := D7 (by decide)
 have mC' : ∀ z n : Int, -(2 ^ 64) < n -> n < 2 ^ 64 -> IntMulOk n z := fun z n a b => A2u.ok (.inl ⟨a, b⟩)
 have hb0 : 0 < b := by have := hb.1; omega
 refine ⟨_, rfl, x, CR, dx, _, _, rfl, e, R.cl, R.n_power, D9g _ _ _, _, rfl, _, _, rfl, rfl, ?_⟩
 refine ⟨_, rfl, x, CR, dx, _, _, rfl, e, R.cl, R.n_top, V3u _ _ _, _, rfl, _, _, rfl, (n - p).toNat, congrArg (fun z => [V.int z]) (maxT (n - p)), by omega, _, _, rfl, rfl, B1c ht h2, ?_⟩
 refine ⟨_, rfl, x, CR, dx, _, _, rfl, e, R.cl, R.n_bottom, C9x _ _ _, _, rfl, _, rfl, _, _, rfl, (-(n - p)).toNat, congrArg (fun z => [V.int z]) (maxT (-(n - p))), by omega, _, _, rfl, rfl, B1c hb (by omega), ?_⟩
 have lp : 0 < b * A4 (-(n - p)) := Int.mul_pos hb0 (D4 _)
 have ll : (b * A4 (-(n - p))).natAbs.log2 < 9000 := J9v hb (by omega)
 refine ⟨_, rfl, _, rfl, _, _, rfl, rfl, ⟨lp, ll⟩, ?_⟩
 have lf := V3j (t := t) (s := n - p) hb0
 refine ⟨_, rfl, _, rfl, _, rfl, _, rfl, _, _, rfl, rfl, A0za ht hb h1 h2, _, _, rfl, rfl, _, _, rfl, rfl, mC' _ _ (by decide) (by decide), _, rfl, _, _, rfl, lf.1, lp, z2, fun q nq => k q _ (C8.upd nq) nq A7⟩
theorem A0rg {t b L M u v : Nat} (h : L + u = M + v) (t2 : t < 10 ^ (L + 1)) (b1 : 10 ^ M <= b) : t * 10 ^ u < 10 * (b * 10 ^ v) := by
 have p : 0 < 10 ^ u := Nat.pow_pos (by decide)
 calc t * 10 ^ u < 10 ^ (L + 1) * 10 ^ u := Nat.mul_lt_mul_of_pos_right t2 p
   _ = 10 * (10 ^ M * 10 ^ v) := by rw [<- Nat.pow_add, <- Nat.pow_add, <- h, show L + 1 + u = (L + u) + 1 by omega, Nat.pow_succ, Nat.mul_comm]
   _ <= 10 * (b * 10 ^ v) := Nat.mul_le_mul_left 10 (Nat.mul_le_mul_right _ b1)
theorem A0ru {t b L M u v : Nat} (h : L + u = M + 1 + v) (t1 : 10 ^ L <= t) (b2 : b < 10 ^ (M + 1)) : b * 10 ^ v <= t * 10 ^ u := by
 calc b * 10 ^ v <= 10 ^ (M + 1) * 10 ^ v := Nat.mul_le_mul_right _ (Nat.le_of_lt b2)
   _ = 10 ^ L * 10 ^ u := by rw [<- Nat.pow_add, <- Nat.pow_add, h]
   _ <= t * 10 ^ u := Nat.mul_le_mul_right _ t1
theorem D9h {t b L M : Nat} (t1 : 10 ^ L <= t) (t2 : t < 10 ^ (L + 1)) (b1 : 10 ^ M <= b) (b2 : b < 10 ^ (M + 1)) (h : (b : Int) * A4 (-((M : Int) - L)) <= (t : Int) * A4 ((M : Int) - L)) : A0w t b ((M : Int) - L) := by
 refine ⟨h, ?_⟩
 unfold A4
 have := A0rg (t := t) (b := b) (L := L) (M := M) (u := ((M : Int) - L).toNat) (v := (-((M : Int) - L)).toNat) (by omega) t2 b1
 exact Int.ofNat_lt.mpr this
theorem D0e {t b L M : Nat} (t1 : 10 ^ L <= t) (t2 : t < 10 ^ (L + 1)) (b1 : 10 ^ M <= b) (b2 : b < 10 ^ (M + 1)) (h : (t : Int) * A4 ((M : Int) - L) < (b : Int) * A4 (-((M : Int) - L))) : A0w t b ((M : Int) - L + 1) := by
 refine ⟨?_, ?_⟩
 . unfold A4
   have := A0ru (t := t) (b := b) (L := L) (M := M) (u := ((M : Int) - L + 1).toNat) (v := (-((M : Int) - L + 1)).toNat) (by omega) t1 b2
   exact Int.ofNat_le.mpr this
 have hb : 0 < (b : Int) := by
   have : 0 < 10 ^ M := Nat.pow_pos (by decide)
   omega
 generalize (M : Int) - L = s at h
 have c := A0e (s := s) (r := s + 1) (by omega)
 have e1 : A4 (s + 1 - s) = 10 := by rw [show s + 1 - s = 1 by omega]; rfl
 rw [e1] at c
 have l := Int.mul_pos hb (D4 (-s))
 have l' := Int.mul_pos hb (D4 (-(s + 1)))
 have e : (t : Int) * A4 (s + 1) * ((b : Int) * A4 (-s)) = (t : Int) * A4 s * ((b : Int) * A4 (-(s + 1))) * 10 := by
   calc (t : Int) * A4 (s + 1) * ((b : Int) * A4 (-s)) = t * b * (A4 (s + 1) * A4 (-s)) := by ac_rfl
     _ = t * b * (A4 s * A4 (-(s + 1)) * 10) := by rw [c]
     _ = (t : Int) * A4 s * ((b : Int) * A4 (-(s + 1))) * 10 := by ac_rfl
 have a : (t : Int) * A4 s * ((b : Int) * A4 (-(s + 1))) < (b : Int) * A4 (-s) * ((b : Int) * A4 (-(s + 1))) := Int.mul_lt_mul_of_pos_right h l'
 have a2 : (t : Int) * A4 (s + 1) * ((b : Int) * A4 (-s)) < 10 * ((b : Int) * A4 (-(s + 1))) * ((b : Int) * A4 (-s)) := by
   rw [e, show 10 * ((b : Int) * A4 (-(s + 1))) * ((b : Int) * A4 (-s)) = (b : Int) * A4 (-s) * ((b : Int) * A4 (-(s + 1))) * 10 by ac_rfl]
   exact Int.mul_lt_mul_of_pos_right a (by decide)
 exact Int.lt_of_mul_lt_mul_right a2 (Int.le_of_lt l)
theorem scRFirst : C5 ["self", "guess"] ["self"] (A2 A4y) := scK
theorem V7b {f f1 f2 CR CE : Addr} {fd fd1 fd2 : FuncData} (F : Fun K "first" "Ratio.first" A4y f fd) (D_whole_lead : Def K mg "whole_lead" ["whole"] A6c f1 fd1) (G_whole_lead : sI P w K mg base 3 f1 fd1 ["whole"] C7r)
   (MA : Y5 K CR "at" f2) (GA : sI P w K mg base 3 f2 fd2 Q15 (C9q CR)) (BA : Binds K fd2 Q15 []) (R : G2r K mg CR CE) : sI P w K mg base 4 f fd ["self"] (A7c CR) := by
 refine A8.up (F.ok scRFirst (fun vs H Q E h => ?_) (fun cdv A outer s H vs Q E hr h => ?_))
 . obtain ⟨x, t, b, n, rfl, _⟩ := h
   rfl
 obtain ⟨x, t, b, n, rfl, ra, ht, hb, k⟩ := h
 have hx : U1 (A1x CX0 P w K mg base ["self", "guess"] "Ratio.first" (A2 A4y) f cdv A outer s H E).nox EKF := Y1
 refine ⟨_, (A3 (D3 (i := 1) scRFirst.nd rfl (Or.inl rfl) (A9 J4 (A9 J8 (C9 D_whole_lead G_whole_lead hr hx (A0 (D6 (pv 0) rfl) A5)) (C9 D_whole_lead G_whole_lead hr hx (A0 (D6 (pv 0) rfl) A5))) (D6 (pv 0) rfl))) (A6 (B0 (V5 (C7 A7b (D9 G3 (C6j (pv 0) R.cl MA GA hr BA .nil hx (A0 (pv 1) A5)) A1 (fun _ _ => rfl)) A1 (C6 _)) (pv 1) (A9 J8 (pv 1) A1))))), ?_⟩
 obtain ⟨tn, rfl, ta, tb⟩ := ht.nat
 obtain ⟨bn, rfl, ba, bb⟩ := hb.nat
 obtain ⟨dx, e⟩ := id ra
 have p30 : (10 : Nat) ^ 1000 < 10 ^ 3000 := Nat.pow_lt_pow_right (by decide) (by decide)
 have p30' : ∀ {L m : Nat}, 10 ^ L <= m -> m < 10 ^ 1000 -> L < 1000 := fun h1 h2 => (Nat.pow_lt_pow_iff_right (by decide : 1 < 10)).mp (Nat.lt_of_le_of_lt h1 h2)
 refine ⟨_, rfl, x, CR, dx, _, _, rfl, e, R.cl, R.n_top, V3u _ _ _, tn, rfl, ta, Nat.lt_trans tb p30, fun L L1 L2 => ?_⟩
 refine ⟨_, rfl, x, CR, dx, _, _, rfl, e, R.cl, R.n_bottom, C9x _ _ _, bn, rfl, ba, Nat.lt_trans bb p30, fun M' M1 M2 => ?_⟩
 have l30 := p30' L1 tb
 have m30 := p30' M1 bb
 refine ⟨_, _, rfl, rfl, _, rfl, x, CR, dx, _, _, rfl, e, R.cl, R.n_power, D9g _ _ _, _, _, rfl, rfl, ?_⟩
 have es : n - ((L : Int) - M' + n) = (M' : Int) - L := by omega
 refine ⟨_, rfl, x, dx, _, rfl, e, D9s _ _ _, _, rfl, x, tn, bn, n, _, rfl, ra, ht, hb, by omega, by omega, fun q H1 s1 nq hq => ?_⟩
 rw [es] at hq
 refine ⟨q, _, 0, _, rfl, rfl, SqT.of hq, B7 (j := 0) rfl, _, _, rfl, rfl, _, rfl, ?_⟩
 have lp : 0 < (bn : Int) * A4 (-((M' : Int) - L)) := Int.mul_pos (by omega) (D4 _)
 refine J1 (fun hg => ?_) (fun hg => ?_)
 . have hle : (bn : Int) * A4 (-((M' : Int) - L)) <= (tn : Int) * A4 ((M' : Int) - L) := by
     have := (Int.le_ediv_iff_mul_le lp).mp (show (1 : Int) <= (tn : Int) * A4 ((M' : Int) - L) / ((bn : Int) * A4 (-((M' : Int) - L))) from hg)
     omega
   refine ⟨_, rfl, k _ H1 s1 ?_⟩
   rw [es]
   exact D9h L1 L2 M1 M2 hle
 have hlt : (tn : Int) * A4 ((M' : Int) - L) < (bn : Int) * A4 (-((M' : Int) - L)) := by
   apply Classical.byContradiction
   intro z
   exact hg ((Int.le_ediv_iff_mul_le lp).mpr (by omega))
 refine ⟨_, rfl, _, _, rfl, rfl, k _ H1 s1 ?_⟩
 rw [show n - ((L : Int) - M' + n - 1) = (M' : Int) - L + 1 by omega]
 exact D0e L1 L2 M1 M2 hlt
inductive Wy where
 | down
 | up
 | floor
 | ceiling
 | halfUp
 | halfDown
 | halfEven
 | fiveUp
def Wy.name : Wy -> Str
 | .down => "down"
 | .up => "up"
 | .floor => "floor"
 | .ceiling => "ceiling"
 | .halfUp => "half up"
 | .halfDown => "half down"
 | .halfEven => "half even"
 | .fiveUp => "five up"
def Wy.cls : Wy -> Str
 | .down => "Down"
 | .up => "Up"
 | .floor => "Floor"
 | .ceiling => "Ceiling"
 | .halfUp => "HalfUp"
 | .halfDown => "HalfDown"
 | .halfEven => "HalfEven"
 | .fiveUp => "FiveUp"
theorem Wy.inj {a b : Wy} (h : a.name = b.name) : a = b := by
 cases a <;> cases b <;> first | rfl | exact absurd h (by decide +kernel)
structure C7f (K : Frag) (mg : Str -> Option Value) (x : Str) (C CW : Addr) : Prop where
 g : mg x = some (.ref C)
 cl : Cls K C
 mk0 : Mk0 K C
 ca : findIn K (.ref C) "__class__" = some (some (.builtin "object.__class__"))
 sn : specialIn K (.builtin "object.__class__") "__get__" = some (some (.builtin "getset_descriptor.__get__"))
 tk : takesIn K (.builtin "object.__class__") = some true
 ob : mroIn K C (.type "object") = some true
 up : kitOne K (.ref C) (.ref CW) = some true
def A8b (s : Str) : Sp := fun vs H Q _ => ∃ p, vs = [.ref p] /\ Q (.str s) H
def WayN (P : Program) (w : World) (K : Frag) (mg : Str -> Option Value) (base : Heap) (C : Addr) (s : Str) : Prop := Has P w K mg base C "name" 1 ["self"] (A8b s)
abbrev sN0 : Stmt := (J2 (top 56) 0)
theorem scN0 : C5 ["self"] ["self"] (A2 sN0) := scK
theorem A0ze {f : Addr} {fd : FuncData} (F : Fun K "name" "Down.name" sN0 f fd) : sI P w K mg base 1 f fd ["self"] (A8b "down") := by
 refine A8.up (F.ok scN0 (fun vs H Q E h => ?_) (fun cdv A outer s H vs Q E hr h => ?_))
 . obtain ⟨p, rfl, _⟩ := h
   rfl
 obtain ⟨p, rfl, k⟩ := h
 exact ⟨_, A6 (B0 D5), k⟩
abbrev sN1 : Stmt := (J2 (top 57) 0)
theorem scN1 : C5 ["self"] ["self"] (A2 sN1) := scK
theorem A0zb {f : Addr} {fd : FuncData} (F : Fun K "name" "Up.name" sN1 f fd) : sI P w K mg base 1 f fd ["self"] (A8b "up") := by
 refine A8.up (F.ok scN1 (fun vs H Q E h => ?_) (fun cdv A outer s H vs Q E hr h => ?_))
 . obtain ⟨p, rfl, _⟩ := h
   rfl
 obtain ⟨p, rfl, k⟩ := h
 exact ⟨_, A6 (B0 D5), k⟩
abbrev sN2 : Stmt := (J2 (top 58) 0)
theorem scN2 : C5 ["self"] ["self"] (A2 sN2) := scK
theorem A0zw {f : Addr} {fd : FuncData} (F : Fun K "name" "Floor.name" sN2 f fd) : sI P w K mg base 1 f fd ["self"] (A8b "floor") := by
 refine A8.up (F.ok scN2 (fun vs H Q E h => ?_) (fun cdv A outer s H vs Q E hr h => ?_))
 . obtain ⟨p, rfl, _⟩ := h
   rfl
 obtain ⟨p, rfl, k⟩ := h
 exact ⟨_, A6 (B0 D5), k⟩
abbrev sN3 : Stmt := (J2 (top 59) 0)
theorem scN3 : C5 ["self"] ["self"] (A2 sN3) := scK
theorem A0ye {f : Addr} {fd : FuncData} (F : Fun K "name" "Ceiling.name" sN3 f fd) : sI P w K mg base 1 f fd ["self"] (A8b "ceiling") := by
 refine A8.up (F.ok scN3 (fun vs H Q E h => ?_) (fun cdv A outer s H vs Q E hr h => ?_))
 . obtain ⟨p, rfl, _⟩ := h
   rfl
 obtain ⟨p, rfl, k⟩ := h
 exact ⟨_, A6 (B0 D5), k⟩
abbrev sN4 : Stmt := (J2 (top 60) 0)
theorem scN4 : C5 ["self"] ["self"] (A2 sN4) := scK
theorem A0xf {f : Addr} {fd : FuncData} (F : Fun K "name" "HalfUp.name" sN4 f fd) : sI P w K mg base 1 f fd ["self"] (A8b "half up") := by
 refine A8.up (F.ok scN4 (fun vs H Q E h => ?_) (fun cdv A outer s H vs Q E hr h => ?_))
 . obtain ⟨p, rfl, _⟩ := h
   rfl
 obtain ⟨p, rfl, k⟩ := h
 exact ⟨_, A6 (B0 D5), k⟩
abbrev sN5 : Stmt := (J2 (top 61) 0)
theorem scN5 : C5 ["self"] ["self"] (A2 sN5) := scK
theorem A0xq {f : Addr} {fd : FuncData} (F : Fun K "name" "HalfDown.name" sN5 f fd) : sI P w K mg base 1 f fd ["self"] (A8b "half down") := by
 refine A8.up (F.ok scN5 (fun vs H Q E h => ?_) (fun cdv A outer s H vs Q E hr h => ?_))
 . obtain ⟨p, rfl, _⟩ := h
   rfl
 obtain ⟨p, rfl, k⟩ := h
 exact ⟨_, A6 (B0 D5), k⟩
abbrev sN6 : Stmt := (J2 (top 62) 0)
theorem scN6 : C5 ["self"] ["self"] (A2 sN6) := scK
theorem A0zf {f : Addr} {fd : FuncData} (F : Fun K "name" "HalfEven.name" sN6 f fd) : sI P w K mg base 1 f fd ["self"] (A8b "half even") := by
 refine A8.up (F.ok scN6 (fun vs H Q E h => ?_) (fun cdv A outer s H vs Q E hr h => ?_))
 . obtain ⟨p, rfl, _⟩ := h
   rfl
 obtain ⟨p, rfl, k⟩ := h
 exact ⟨_, A6 (B0 D5), k⟩
abbrev sN7 : Stmt := (J2 (top 63) 0)
theorem scN7 : C5 ["self"] ["self"] (A2 sN7) := scK
theorem A0yy {f : Addr} {fd : FuncData} (F : Fun K "name" "FiveUp.name" sN7 f fd) : sI P w K mg base 1 f fd ["self"] (A8b "five up") := by
 refine A8.up (F.ok scN7 (fun vs H Q E h => ?_) (fun cdv A outer s H vs Q E hr h => ?_))
 . obtain ⟨p, rfl, _⟩ := h
   rfl
 obtain ⟨p, rfl, k⟩ := h
 exact ⟨_, A6 (B0 D5), k⟩
def A0qy (K : Frag) (H : Hp) (v : V) : Prop := ∃ t b, TyE K H v t /\ kitOne K t (.type "str") = some b /\ (b = false \/ ∃ z, v = .str z /\ ∀ y : Wy, z ≠ y.name)
theorem B1k {C : Addr} {σ : L2.St} {H : Hp} {Q : VK} (k : ∀ p dx H', H p = none -> C8 H H' -> H' p = some (.ins C dx []) -> Q (.ref p) H') : tNew C σ H Q := fun x dx n1 n2 ne =>
 k x dx _ n1 ((C8.upd n2).trans (C8.upd (by rw [G6 (Ne.symm ne)]; exact n1))) A7
abbrev B1w : Stmt := (top 64)
def G2n (K : Frag) (CB : Addr) (cw : Wy -> Addr) : Sp := fun vs H Q E => ∃ v, vs = [v] /\ ((∃ y : Wy, v = .str y.name /\ ∀ p dx H', H p = none -> C8 H H' -> H' p = some (.ins (cw y) dx []) -> Q (.ref p) H') \/ (A0qy K H v /\ E (.ref CB) none H))
theorem A0hn : C5 ["name"] ["name"] (A2 B1w) := scK
theorem Y5v {f CB CW : Addr} {cw : Wy -> Addr} {fd : FuncData} (D : Def K mg "way_of" ["name"] B1w f fd) (O : Own mg) (T : Kit K) (B : Err K mg "BadContext" CB) (W : ∀ y : Wy, C7f K mg y.cls (cw y) CW) :
   sI P w K mg base 1 f fd ["name"] (G2n K CB cw) := by
 refine D.F.okE A0hn (fun vs H Q E h => ?_) (fun X cdv A outer s H vs Q E hX hr hx h => ?_)
 . obtain ⟨v, rfl, _⟩ := h
   rfl
 subst hX
 obtain ⟨v, rfl, h⟩ := h
 refine ⟨_, (A3 (G4 (A4k (Y2 (V5w O.isi (pv 0) (pty O.str_ boot_str)))) (A6 (A2n (by rfl) B.g B.q PySem.F.excBase_ValueError hr.hd hx (A0 D5 A5))) D0) (A3 (G4 (C7 G2 (pv 0) D5 (C6 _)) (A6 (B0 (B1v (W .down).mk0 rfl (W .down).g))) D0) (A3 (G4 (C7 G2 (pv 0) D5 (C6 _)) (A6 (B0 (B1v (W .up).mk0 rfl (W .up).g))) D0) (A3 (G4 (C7 G2 (pv 0) D5 (C6 _)) (A6 (B0 (B1v (W .floor).mk0 rfl (W .floor).g))) D0) (A3 (G4 (C7 G2 (pv 0) D5 (C6 _)) (A6 (B0 (B1v (W .ceiling).mk0 rfl (W .ceiling).g))) D0) (A3 (G4 (C7 G2 (pv 0) D5 (C6 _)) (A6 (B0 (B1v (W .halfUp).mk0 rfl (W .halfUp).g))) D0) (A3 (G4 (C7 G2 (pv 0) D5 (C6 _)) (A6 (B0 (B1v (W .halfDown).mk0 rfl (W .halfDown).g))) D0) (A3 (G4 (C7 G2 (pv 0) D5 (C6 _)) (A6 (B0 (B1v (W .halfEven).mk0 rfl (W .halfEven).g))) D0) (A3 (G4 (C7 G2 (pv 0) D5 (C6 _)) (A6 (B0 (B1v (W .fiveUp).mk0 rfl (W .fiveUp).g))) D0) (A6 (A2n (by rfl) B.g B.q PySem.F.excBase_ValueError hr.hd hx (A0 D5 A5)))))))))))), ?_⟩
 have z1 : 1 <= sizeLine := D7 (by decide)
 rcases h with ⟨y, rfl, k⟩ | ⟨⟨t, b, ty, kk, bad⟩, k⟩
 . refine ⟨_, rfl, _, _, _, _, true, rfl, rfl, Y5r _, T.str_str, _, rfl, V3 ?_⟩
   refine ⟨_, rfl, rfl, _, rfl, J1 (fun e => ?_) (fun n0 => ?_)⟩
   . have q : y = .down := Wy.inj (V.str.inj (e : V.str y.name = V.str (Wy.name .down)))
     subst q
     exact B1k k
   refine ⟨_, rfl, rfl, _, rfl, J1 (fun e => ?_) (fun n1 => ?_)⟩
   . have q : y = .up := Wy.inj (V.str.inj (e : V.str y.name = V.str (Wy.name .up)))
     subst q
     exact B1k k
   refine ⟨_, rfl, rfl, _, rfl, J1 (fun e => ?_) (fun n2 => ?_)⟩
   . have q : y = .floor := Wy.inj (V.str.inj (e : V.str y.name = V.str (Wy.name .floor)))
     subst q
     exact B1k k
   refine ⟨_, rfl, rfl, _, rfl, J1 (fun e => ?_) (fun n3 => ?_)⟩
   . have q : y = .ceiling := Wy.inj (V.str.inj (e : V.str y.name = V.str (Wy.name .ceiling)))
     subst q
     exact B1k k
   refine ⟨_, rfl, rfl, _, rfl, J1 (fun e => ?_) (fun n4 => ?_)⟩
   . have q : y = .halfUp := Wy.inj (V.str.inj (e : V.str y.name = V.str (Wy.name .halfUp)))
     subst q
     exact B1k k
   refine ⟨_, rfl, rfl, _, rfl, J1 (fun e => ?_) (fun n5 => ?_)⟩
   . have q : y = .halfDown := Wy.inj (V.str.inj (e : V.str y.name = V.str (Wy.name .halfDown)))
     subst q
     exact B1k k
   refine ⟨_, rfl, rfl, _, rfl, J1 (fun e => ?_) (fun n6 => ?_)⟩
   . have q : y = .halfEven := Wy.inj (V.str.inj (e : V.str y.name = V.str (Wy.name .halfEven)))
     subst q
     exact B1k k
   refine ⟨_, rfl, rfl, _, rfl, J1 (fun e => ?_) (fun n7 => ?_)⟩
   . have q : y = .fiveUp := Wy.inj (V.str.inj (e : V.str y.name = V.str (Wy.name .fiveUp)))
     subst q
     exact B1k k
   cases y with
   | down => exact absurd rfl n0
   | up => exact absurd rfl n1
   | floor => exact absurd rfl n2
   | ceiling => exact absurd rfl n3
   | halfUp => exact absurd rfl n4
   | halfDown => exact absurd rfl n5
   | halfEven => exact absurd rfl n6
   | fiveUp => exact absurd rfl n7
 refine ⟨_, rfl, _, _, _, _, b, rfl, rfl, ty, kk, _, rfl, ?_⟩
 cases b with
 | false => exact Z5 ⟨z1, k⟩
 | true =>
   obtain ⟨z, rfl, nz⟩ := bad.resolve_left (by decide)
   refine V3 ?_
   refine ⟨_, rfl, rfl, _, rfl, J1 (fun e => absurd (V.str.inj e) (nz .down)) (fun n0 => ?_)⟩
   refine ⟨_, rfl, rfl, _, rfl, J1 (fun e => absurd (V.str.inj e) (nz .up)) (fun n1 => ?_)⟩
   refine ⟨_, rfl, rfl, _, rfl, J1 (fun e => absurd (V.str.inj e) (nz .floor)) (fun n2 => ?_)⟩
   refine ⟨_, rfl, rfl, _, rfl, J1 (fun e => absurd (V.str.inj e) (nz .ceiling)) (fun n3 => ?_)⟩
   refine ⟨_, rfl, rfl, _, rfl, J1 (fun e => absurd (V.str.inj e) (nz .halfUp)) (fun n4 => ?_)⟩
   refine ⟨_, rfl, rfl, _, rfl, J1 (fun e => absurd (V.str.inj e) (nz .halfDown)) (fun n5 => ?_)⟩
   refine ⟨_, rfl, rfl, _, rfl, J1 (fun e => absurd (V.str.inj e) (nz .halfEven)) (fun n6 => ?_)⟩
   refine ⟨_, rfl, rfl, _, rfl, J1 (fun e => absurd (V.str.inj e) (nz .fiveUp)) (fun n7 => ?_)⟩
   exact ⟨z1, k⟩
def B8e : List Str := ["void", "split", "burst", "sunk", "faint", "off", "cut"]
def U0q : List V := B8e.map V.str
structure SigK (K : Frag) (mg : Str -> Option Value) (aS : Addr) : Prop where
 g : mg "SIGNALS" = some (.ref aS)
 ty : ∃ o, K.lookup aS = some o /\ o.cls = .type "tuple"
 sq : ∀ H, SqT K H aS U0q
abbrev B7m : Stmt := (top 69)
def BadS (K : Frag) (H : Hp) (x : V) : Prop := ∃ t b, TyE K H x t /\ kitOne K t (.type "str") = some b /\ (b = false \/ ∃ z, x = .str z /\ z ∉ B8e)
def Y4n (K : Frag) (H : Hp) (v : V) : Prop := (∃ t, TyE K H v t /\ kitOne K t (.type "list") = some false) \/ (∃ (p : Addr) (zs : List Str) (x : V) (r : List V), v = .ref p /\ H p = some (.lst (zs.map V.str ++ x :: r)) /\ (∀ z ∈ zs, z ∈ B8e) /\ BadS K H x)
def V3p (K : Frag) (CB : Addr) : Sp := fun vs H Q E => ∃ v, vs = [v] /\ ((∃ (p : Addr) (zs : List Str), v = .ref p /\ H p = some (.lst (zs.map V.str)) /\ (∀ z ∈ zs, z ∈ B8e) /\ Q .non H) \/ (Y4n K H v /\ E (.ref CB) none H))
theorem scNeedS : C5 ["names", "name"] ["names"] (A2 B7m) := scK
theorem Y8c {f CB aS : Addr} {fd : FuncData} (D : Def K mg "need_signals" ["names"] B7m f fd) (O : Own mg) (T : Kit K) (B : Err K mg "BadContext" CB) (SG : SigK K mg aS) : sI P w K mg base 1 f fd ["names"] (V3p K CB) := by
 refine D.F.okE scNeedS (fun vs H Q E h => ?_) (fun X cdv A outer s H vs Q E hX hr hx h => ?_)
 . obtain ⟨v, rfl, _⟩ := h
   rfl
 subst hX
 obtain ⟨v, rfl, h⟩ := h
 refine ⟨_, (A3 (G4 (A4k (Y2 (V5w O.isi (pv 0) (pty O.list_ boot_list)))) (A6 (A2n (by rfl) B.g B.q PySem.F.excBase_ValueError hr.hd hx (A0 D5 A5))) D0) (A6 (B7y PassesOwn.leaving rfl (G1g (pv 0)) (J7 (i := 1) scNeedS.nd rfl (Or.inl rfl)) (A6 (G4 (PW.pt (D8x (A4k (Y2 (V5w O.isi (pv 1) (pty O.str_ boot_str)))) (C1v (C7 G1w (pv 1) (pcls SG.g) (by rfl))))) (A6 (A2n (by rfl) B.g B.q PySem.F.excBase_ValueError hr.hd hx (A0 D5 A5))) D0))))), ?_⟩
 have z1 : 1 <= sizeLine := D7 (by decide)
 rcases h with ⟨p, zs, rfl, hp, hz, k⟩ | ⟨(⟨t, ty, kk⟩ | ⟨p, zs, x, r, rfl, hp, hz, t, b, ty, kk, bad⟩), k⟩
 . refine ⟨_, rfl, _, _, _, _, true, rfl, rfl, A0qq hp, T.list_list, _, rfl, V3 ?_⟩
   refine ⟨_, rfl, p, rfl, ⟨_, SqL.of hp⟩, B1d (xs := zs.map V.str) (fun i σ H' => H' = H /\ ∃ v, σ = [sr p, v]) ⟨rfl, none, rfl⟩ ?_ ?_ ?_⟩
   . rintro i σ H' _ ⟨rfl, _⟩
     exact SqL.of hp
   . rintro i x σ H' hi ⟨rfl, v, rfl⟩
     obtain ⟨z, hzm, rfl⟩ := List.mem_map.mp (List.mem_of_getElem? hi)
     refine ⟨_, rfl, _, _, _, _, true, rfl, rfl, Y5r _, T.str_str, _, rfl, V3 ?_⟩
     refine ⟨_, rfl, aS, U0q, rfl, .inr (SG.sq _), rfl, A1z _, _, rfl, ?_⟩
     have e : inV (.str z) U0q = true := by
       show inV (.str z) (B8e.map V.str) = true
       rw [A8g]
       simpa using hz z hzm
     rw [e]
     exact V3 ⟨rfl, _, rfl⟩
   . rintro σ H' ⟨rfl, v, rfl⟩
     exact k
 . exact ⟨_, rfl, _, _, _, _, false, rfl, rfl, ty, kk, _, rfl, Z5 ⟨z1, k⟩⟩
 refine ⟨_, rfl, _, _, _, _, true, rfl, rfl, A0qq hp, T.list_list, _, rfl, V3 ?_⟩
 refine ⟨_, rfl, p, rfl, ⟨_, SqL.of hp⟩, B1d (xs := zs.map V.str ++ x :: r) (fun i σ H' => H' = H /\ i <= zs.length /\ ∃ v, σ = [sr p, v]) ⟨rfl, Nat.zero_le _, none, rfl⟩ ?_ ?_ ?_⟩
 . rintro i σ H' _ ⟨rfl, _⟩
   exact SqL.of hp
 . rintro i y σ H' hi ⟨rfl, hl, v, rfl⟩
   by_cases hlt : i < zs.length
   . rw [List.getElem?_append_left (by simpa using hlt)] at hi
     obtain ⟨z, hzm, rfl⟩ := List.mem_map.mp (List.mem_of_getElem? hi)
     refine ⟨_, rfl, _, _, _, _, true, rfl, rfl, Y5r _, T.str_str, _, rfl, V3 ?_⟩
     refine ⟨_, rfl, aS, U0q, rfl, .inr (SG.sq _), rfl, A1z _, _, rfl, ?_⟩
     have e : inV (.str z) U0q = true := by
       show inV (.str z) (B8e.map V.str) = true
       rw [A8g]
       simpa using hz z hzm
     rw [e]
     exact V3 ⟨rfl, by omega, _, rfl⟩
   . have e : i = zs.length := by omega
     subst e
     rw [List.getElem?_append_right (by simp)] at hi
     simp at hi
     subst hi
     refine ⟨_, rfl, _, _, _, _, b, rfl, rfl, ty, kk, _, rfl, ?_⟩
     cases b with
     | false => exact Z5 (Z5 ⟨z1, k⟩)
     | true =>
       obtain ⟨z, rfl, nz⟩ := bad.resolve_left (by decide)
       refine V3 ⟨_, rfl, aS, U0q, rfl, .inr (SG.sq _), rfl, A1z _, _, rfl, ?_⟩
       have e : inV (.str z) U0q = false := by
         show inV (.str z) (B8e.map V.str) = false
         rw [A8g]
         simpa using nz
       rw [e]
       exact Z5 ⟨z1, k⟩
 rintro σ H' ⟨rfl, hl, _⟩
 exfalso
 rw [List.length_append, List.length_map, List.length_cons] at hl
 omega
abbrev B7f : Stmt := (top 70)
def Z1 (zs : List Str) : List Str := B8e.filter fun z => zs.contains z
def V3k (K : Frag) : Sp := fun vs H Q _ => ∃ (p : Addr) (zs : List Str), vs = [.ref p] /\ SqL K H p (zs.map V.str) /\ ∀ l H', C8 H H' -> H l = none -> H' l = some (.lst ((Z1 zs).map V.str)) -> Q (.ref l) H'
theorem A0jt : C5 ["names"] ["names"] (A2 B7f) := scK
theorem Y4f {f aS : Addr} {fd : FuncData} (D : Def K mg "in_order" ["names"] B7f f fd) (SG : SigK K mg aS) : sI P w K mg base 1 f fd ["names"] (V3k K) := by
 refine A8.up (D.F.ok A0jt (fun vs H Q E h => ?_) (fun cdv A outer s H vs Q E hr h => ?_))
 . obtain ⟨p, zs, rfl, _⟩ := h
   rfl
 obtain ⟨p, zs, rfl, hp, k⟩ := h
 refine ⟨_, (A6 (B0 (Y8f (N := ["name"]) (F := ["names"]) (js := [0]) (U7.of1 ⟨rfl, by decide +kernel, by decide +kernel, by decide +kernel, by decide +kernel⟩ (by rfl) (by rfl) ⟨_, by rfl⟩ (by rfl) (by rfl)) (.inl hr.hd) (A0gv (pcls SG.g)) rfl (fun C s₀ H₀ ex pn h => J7 (i := 0) (by decide +kernel : (["name", "names"] : List Str).Nodup) rfl (Or.inl rfl)) (fun C s₀ H₀ ex pn h => (C7 (U1h (K := K) rfl) (pv 0) (pv 1) (by rfl))) (fun C s₀ H₀ ex pn h => (pv 0))))), ?_⟩
 refine Y7g (zs := B8e) (f := fun z => zs.contains z) (σf := [sr p]) SG.sq (by decide) (fun z H' Qb sm q => ?_) (fun z H' Qv q => ⟨_, rfl, q⟩) (fun D H' sm nd e => k D H' sm nd e) rfl
 refine ⟨_, rfl, _, rfl, p, _, rfl, .inl (sm.seq hp), rfl, A1z _, _, rfl, ?_⟩
 show Qb (inV (.str z) (zs.map V.str)) H'
 rw [A8g]
 exact q
structure D5f (K : Frag) (mg : Str -> Option Value) (CC : Addr) : Prop where
 g : mg "Context" = some (.ref CC)
 cl : Cls K CC
 n_room : Y6 K CC "room"
 n_rule : Y6 K CC "rule"
 n_least : Y6 K CC "least"
 n_most : Y6 K CC "most"
 n_risen : Y6 K CC "risen"
 n_trapped : Y6 K CC "trapped"
def A4r (r s l m a b : V) : List (Str × V) := V6 "trapped" b (V6 "risen" a (V6 "most" m (V6 "least" l (V6 "rule" s (V6 "room" r [])))))
theorem A4s (r s l m a b : V) (n : Str) : (A4r r s l m a b).lookup n = if n = "trapped" then some b else if n = "risen" then some a else if n = "most" then some m else if n = "least" then some l else if n = "rule" then some s else if n = "room" then some r else none := by
 unfold A4r
 rw [G8, G8, G8, G8, G8, G8]
 rfl
theorem A4t (r s l m a b : V) : (A4r r s l m a b).lookup ("room" : Str) = some r := by rw [A4s, if_neg (by decide +kernel), if_neg (by decide +kernel), if_neg (by decide +kernel), if_neg (by decide +kernel), if_neg (by decide +kernel), if_pos rfl]
theorem Y7a (r s l m a b : V) : (A4r r s l m a b).lookup ("rule" : Str) = some s := by rw [A4s, if_neg (by decide +kernel), if_neg (by decide +kernel), if_neg (by decide +kernel), if_neg (by decide +kernel), if_pos rfl]
theorem D9t (r s l m a b : V) : (A4r r s l m a b).lookup ("least" : Str) = some l := by rw [A4s, if_neg (by decide +kernel), if_neg (by decide +kernel), if_neg (by decide +kernel), if_pos rfl]
theorem C8b (r s l m a b : V) : (A4r r s l m a b).lookup ("most" : Str) = some m := by rw [A4s, if_neg (by decide +kernel), if_neg (by decide +kernel), if_pos rfl]
theorem D9u (r s l m a b : V) : (A4r r s l m a b).lookup ("risen" : Str) = some a := by rw [A4s, if_neg (by decide +kernel), if_pos rfl]
theorem J5k (r s l m a b : V) : (A4r r s l m a b).lookup ("trapped" : Str) = some b := by rw [A4s, if_pos rfl]
theorem D0d (r s l m a b : V) : (A4r r s l m a b).lookup ("way" : Str) = none := by rw [A4s, if_neg (by decide +kernel), if_neg (by decide +kernel), if_neg (by decide +kernel), if_neg (by decide +kernel), if_neg (by decide +kernel), if_neg (by decide +kernel)]
theorem A6b (r s l m a b : V) : (A4r r s l m a b).lookup ("lowest" : Str) = none := by rw [A4s, if_neg (by decide +kernel), if_neg (by decide +kernel), if_neg (by decide +kernel), if_neg (by decide +kernel), if_neg (by decide +kernel), if_neg (by decide +kernel)]
theorem G2e (r s l m a b : V) : (A4r r s l m a b).lookup ("flags" : Str) = none := by rw [A4s, if_neg (by decide +kernel), if_neg (by decide +kernel), if_neg (by decide +kernel), if_neg (by decide +kernel), if_neg (by decide +kernel), if_neg (by decide +kernel)]
theorem G1n (r s l m a b : V) : (A4r r s l m a b).lookup ("clear" : Str) = none := by rw [A4s, if_neg (by decide +kernel), if_neg (by decide +kernel), if_neg (by decide +kernel), if_neg (by decide +kernel), if_neg (by decide +kernel), if_neg (by decide +kernel)]
theorem A2k (r s l m a b : V) : (A4r r s l m a b).lookup ("raised" : Str) = none := by rw [A4s, if_neg (by decide +kernel), if_neg (by decide +kernel), if_neg (by decide +kernel), if_neg (by decide +kernel), if_neg (by decide +kernel), if_neg (by decide +kernel)]
structure A1s (CC : Addr) (H : Hp) (c : Addr) (r : Int) (y : Wy) (l m : Int) (a b : Addr) (xs ys : List V) : Prop where
 ins : ∃ dx, H c = some (.ins CC dx (A4r (.int r) (.str y.name) (.int l) (.int m) (.ref a) (.ref b)))
 ha : H a = some (.lst xs)
 hb : H b = some (.lst ys)
theorem A1s.same {CC : Addr} {H H' : Hp} {c : Addr} {r : Int} {y : Wy} {l m : Int} {a b : Addr} {xs ys : List V} (h : A1s CC H c r y l m a b xs ys) (e : C8 H H') : A1s CC H' c r y l m a b xs ys := by
 obtain ⟨⟨dx, z⟩, z1, z2⟩ := h
 exact ⟨⟨dx, e _ _ z⟩, e _ _ z1, e _ _ z2⟩
abbrev A1d : Stmt := (J2 (top 67) 0)
abbrev B5s : Stmt := (J2 (top 67) 1)
abbrev B5q : Stmt := (J2 (top 67) 2)
abbrev A4e : Stmt := (J2 (top 67) 3)
def U0x (l : Int) (v : V) : Prop := (v = .non /\ l = -60) \/ (v = .int l /\ -60 <= l /\ l <= 0)
def A0se (K : Frag) (S : Hp -> Prop) (v1 v2 v3 v4 : V) : Prop := (∀ H', S H' -> D5b K H' 1 24 v1) \/ (B6v 1 24 v1 /\ ((∀ H', S H' -> A0qy K H' v2) \/ ((∃ y : Wy, v2 = .str y.name) /\ ((v3 ≠ .non /\ ∀ H', S H' -> D5b K H' (-60) 0 v3) \/ ((∃ l, U0x l v3) /\ ∀ H', S H' -> D5b K H' 0 60 v4)))))
theorem Exc.none {p a : Addr} {H H' : Hp} {o : HO} (x : Exc p H H') (hp : H' p = some o) (n : H' a = none) : H a = none := by
 cases q : H a with
 | none => rfl
 | some u =>
   have := x a u q (fun e => by rw [e, hp] at n; cases n)
   rw [n] at this
   cases this
def C1w (K : Frag) (CC CB : Addr) : Sp := fun vs H Q E => ∃ p dx v1 v2 v3 v4, vs = [.ref p, v1, v2, v3, v4] /\ H p = some (.ins CC dx []) /\
 ((∃ r y l m, v1 = .int r /\ 1 <= r /\ r <= 24 /\ v2 = .str (Wy.name y) /\ U0x l v3 /\ v4 = .int m /\ 0 <= m /\ m <= 60 /\ ∀ a b H', Exc p H H' -> H a = none -> H b = none -> A1s CC H' p r y l m a b [] [] -> Q .non H') \/
  (A0se K (Exc p H) v1 v2 v3 v4 /\ ∀ H', Exc p H H' -> E (.ref CB) none H'))
theorem V6c : C5 Q45 Q45 (A2 A1d) := scK
theorem Y7w : C0k 1 24 := by unfold C0k; decide +kernel
theorem U1p : C0k (-60) 0 := by unfold C0k; decide +kernel
theorem Y6y : C0k 0 60 := by unfold C0k; decide +kernel
theorem U0v {f fB fW CC CB CW : Addr} {dV : Value} {cw : Wy -> Addr} {fd fdB fdW : FuncData} (F : V8a K "__init__" "Context.__init__" A1d dV f fd) (D_bounded : Def K mg "bounded" Q6 A4x fB fdB) (D_way_of : Def K mg "way_of" ["name"] B1w fW fdW)
   (G_bounded : sI P w K mg base 2 fB fdB Q6 (D9c K CB)) (G_way_of : sI P w K mg base 1 fW fdW ["name"] (G2n K CB cw)) (C : D5f K mg CC)
   (W : ∀ y : Wy, C7f K mg y.cls (cw y) CW) (N : ∀ y : Wy, WayN P w K mg base (cw y) y.name) : sI P w K mg base 3 f fd Q45 (C1w K CC CB) := by
 refine F.okE V6c (fun vs H Q E h => ?_) (fun X cdv A outer s H vs Q E hX hr hx h => ?_)
 . obtain ⟨p, dx, v1, v2, v3, v4, rfl, _⟩ := h
   rfl
 subst hX
 obtain ⟨p, dx, v1, v2, v3, v4, rfl, hp, h⟩ := h
 obtain ⟨y, hy⟩ : ∃ y : Wy, ∀ z : Wy, v2 = .str z.name -> z = y := by
   by_cases q : ∃ z : Wy, v2 = .str z.name
   . obtain ⟨z, rfl⟩ := q
     exact ⟨z, fun u e => Wy.inj (V.str.inj e.symm)⟩
   . exact ⟨.down, fun z e => absurd ⟨z, e⟩ q⟩
 obtain ⟨fN, fdN, mN, gN, bN⟩ := N y
 refine ⟨_, (A3 (Z6 (pv 0) (C9 D_bounded G_bounded hr hx (A0 (pv 1) (A0 A1 (A0 A1 A5)))) rfl) (A3 (Z6 (pv 0) (A6d (C9 D_way_of G_way_of hr hx (A0 (pv 2) A5)) (W y).cl mN gN hr bN .nil hx) rfl) (A3 (B5 (Z6 (pv 0) (V5 (C7 A0tx (pv 3) A0tw (C6 _)) (B1e A4m A1) (C9 D_bounded G_bounded hr hx (A0 (pv 3) (A0 (B1e A4m A1) (A0 A1 A5))))) rfl)) (A3 (Z6 (pv 0) (C9 D_bounded G_bounded hr hx (A0 (pv 4) (A0 A1 (A0 A1 A5)))) rfl) (A3 (Z6 (pv 0) (U4 A5) rfl) (A6 (Z6 (pv 0) (U4 A5) rfl))))))), ?_⟩
 have lz : ∀ (fs : List (Str × V)) (f : Str) (v : V) (n : Nat), fs.length <= n -> (V6 f v fs).length <= n + 1 := fun fs f v n h => Nat.le_trans (A0x f v fs) (Nat.succ_le_succ h)
 have q0 : (([] : List (Str × V))).length <= 0 := Nat.le_refl _
 have z0 : 0 <= sizeLine := Nat.zero_le _
 rcases h with ⟨r, y', l, m, rfl, r1, r2, rfl, hl, rfl, m1, m2, k⟩ | ⟨bad, k⟩
 . obtain rfl := hy _ rfl
   refine ⟨_, rfl, _, _, _, rfl, Y7w, .inl ⟨⟨r, rfl, r1, r2⟩, ?_⟩⟩
   refine ⟨_, rfl, p, CC, dx, [], rfl, hp, C.cl, C.n_room, by show 0 < 1000; decide, ?_⟩
   refine ⟨_, rfl, _, rfl, .inl ⟨_, rfl, fun q dq H2 nq s2 eq => ⟨q, dq, [], rfl, eq, rfl, _, rfl, ?_⟩⟩⟩
   have hp2 := s2 _ _ (A7 (H := H) (a := p) (o := .ins CC dx (V6 "room" (.int r) [])))
   have x2 : Exc p H H2 := (Exc.upd (H := H) (o := .ins CC dx (V6 "room" (.int r) []))).trans (.of s2)
   refine ⟨_, rfl, p, CC, dx, _, rfl, hp2, C.cl, C.n_rule, Nat.lt_of_le_of_lt (lz _ _ _ 0 q0) (by decide), ?_⟩
   refine ⟨fun σ' H' => σ' = [sr p, si r, sR y'.name, some v3, si m] /\ Exc p H H' /\ H' p = some (.ins CC dx (V6 "least" (.int l) (V6 "rule" (.str y'.name) (V6 "room" (.int r) [])))), ?_, ?_⟩
   . refine ⟨_, rfl, rfl, _, rfl, ?_⟩
     rcases hl with ⟨rfl, rfl⟩ | ⟨rfl, l1, l2⟩
     . refine A0p rfl ⟨_, rfl, ?_⟩
       exact ⟨_, rfl, p, CC, dx, _, rfl, A7, C.cl, C.n_least, Nat.lt_of_le_of_lt (lz _ _ _ 1 (lz _ _ _ 0 q0)) (by decide), rfl, (x2.trans Exc.upd).trans Exc.upd, A7⟩
     . refine U0 (by intro z; cases z) ⟨_, rfl, _, rfl, _, _, _, rfl, U1p, .inl ⟨⟨l, rfl, l1, l2⟩, ?_⟩⟩
       exact ⟨_, rfl, p, CC, dx, _, rfl, A7, C.cl, C.n_least, Nat.lt_of_le_of_lt (lz _ _ _ 1 (lz _ _ _ 0 q0)) (by decide), rfl, (x2.trans Exc.upd).trans Exc.upd, A7⟩
   rintro σ' H4 ⟨rfl, x4, hp4⟩
   refine ⟨_, rfl, _, _, _, rfl, Y6y, .inl ⟨⟨m, rfl, m1, m2⟩, ?_⟩⟩
   refine ⟨_, rfl, p, CC, dx, _, rfl, hp4, C.cl, C.n_most, Nat.lt_of_le_of_lt (lz _ _ _ 2 (lz _ _ _ 1 (lz _ _ _ 0 q0))) (by decide), ?_⟩
   refine ⟨z0, fun a na => ?_⟩
   refine ⟨_, rfl, p, CC, dx, _, rfl, C8.upd na _ _ A7, C.cl, C.n_risen, Nat.lt_of_le_of_lt (lz _ _ _ 3 (lz _ _ _ 2 (lz _ _ _ 1 (lz _ _ _ 0 q0)))) (by decide), ?_⟩
   refine ⟨z0, fun b nb => ?_⟩
   refine ⟨_, rfl, p, CC, dx, _, rfl, C8.upd nb _ _ A7, C.cl, C.n_trapped, Nat.lt_of_le_of_lt (lz _ _ _ 4 (lz _ _ _ 3 (lz _ _ _ 2 (lz _ _ _ 1 (lz _ _ _ 0 q0))))) (by decide), ?_⟩
   have x5 := x4.trans (Exc.upd (H := H4) (o := .ins CC dx (V6 "most" (.int m) (V6 "least" (.int l) (V6 "rule" (.str y'.name) (V6 "room" (.int r) []))))))
   have nap : a ≠ p := fun e => by rw [e, A7] at na; cases na
   have nbp : b ≠ p := fun e => by rw [e, A7] at nb; cases nb
   have x6 := (x5.trans (.of (C8.upd (o := .lst []) na))).trans (Exc.upd (o := .ins CC dx (V6 "risen" (.ref a) (V6 "most" (.int m) (V6 "least" (.int l) (V6 "rule" (.str y'.name) (V6 "room" (.int r) [])))))))
   have x7 := (x6.trans (.of (C8.upd (o := .lst []) nb))).trans (Exc.upd (o := .ins CC dx (A4r (.int r) (.str y'.name) (.int l) (.int m) (.ref a) (.ref b))))
   refine k a b _ x7 (x5.none A7 na) (x6.none A7 nb) ⟨⟨dx, A7⟩, ?_, ?_⟩
   . rw [G6 nap]
     refine C8.upd nb _ _ ?_
     rw [G6 nap]
     exact A7
   . rw [G6 nbp]
     exact A7
 rcases bad with b1 | ⟨⟨r, rfl, r1, r2⟩, bad⟩
 . exact ⟨_, rfl, _, _, _, rfl, Y7w, .inr ⟨b1 _ (Exc.refl p H), k _ (Exc.refl p H)⟩⟩
 refine ⟨_, rfl, _, _, _, rfl, Y7w, .inl ⟨⟨r, rfl, r1, r2⟩, ?_⟩⟩
 refine ⟨_, rfl, p, CC, dx, [], rfl, hp, C.cl, C.n_room, by show 0 < 1000; decide, ?_⟩
 have x1 : Exc p H (upd H p (.ins CC dx (V6 "room" (.int r) []))) := Exc.upd
 rcases bad with b2 | ⟨⟨y', rfl⟩, bad⟩
 . exact ⟨_, rfl, _, rfl, .inr ⟨b2 _ x1, k _ x1⟩⟩
 obtain rfl := hy _ rfl
 refine ⟨_, rfl, _, rfl, .inl ⟨_, rfl, fun q dq H2 nq s2 eq => ⟨q, dq, [], rfl, eq, rfl, _, rfl, ?_⟩⟩⟩
 have hp2 := s2 _ _ (A7 (H := H) (a := p) (o := .ins CC dx (V6 "room" (.int r) [])))
 have x2 : Exc p H H2 := x1.trans (.of s2)
 refine ⟨_, rfl, p, CC, dx, _, rfl, hp2, C.cl, C.n_rule, Nat.lt_of_le_of_lt (lz _ _ _ 0 q0) (by decide), ?_⟩
 rcases bad with ⟨n3, b3⟩ | ⟨⟨l, hl⟩, b4⟩
 . refine ⟨fun _ _ => False, ?_, fun _ _ z => z.elim⟩
   refine ⟨_, rfl, rfl, _, rfl, U0 n3 ?_⟩
   exact ⟨_, rfl, _, rfl, _, _, _, rfl, U1p, .inr ⟨b3 _ (x2.trans Exc.upd), k _ (x2.trans Exc.upd)⟩⟩
 refine ⟨fun σ' H' => σ' = [sr p, si r, sR y'.name, some v3, some v4] /\ Exc p H H', ?_, ?_⟩
 . refine ⟨_, rfl, rfl, _, rfl, ?_⟩
   rcases hl with ⟨rfl, rfl⟩ | ⟨rfl, l1, l2⟩
   . refine A0p rfl ⟨_, rfl, ?_⟩
     exact ⟨_, rfl, p, CC, dx, _, rfl, A7, C.cl, C.n_least, Nat.lt_of_le_of_lt (lz _ _ _ 1 (lz _ _ _ 0 q0)) (by decide), rfl, (x2.trans Exc.upd).trans Exc.upd⟩
   . refine U0 (by intro z; cases z) ⟨_, rfl, _, rfl, _, _, _, rfl, U1p, .inl ⟨⟨l, rfl, l1, l2⟩, ?_⟩⟩
     exact ⟨_, rfl, p, CC, dx, _, rfl, A7, C.cl, C.n_least, Nat.lt_of_le_of_lt (lz _ _ _ 1 (lz _ _ _ 0 q0)) (by decide), rfl, (x2.trans Exc.upd).trans Exc.upd⟩
 rintro σ' H4 ⟨rfl, x4⟩
 exact ⟨_, rfl, _, _, _, rfl, Y6y, .inr ⟨b4 _ x4, k _ x4⟩⟩
def C8x (CC : Addr) (cw : Wy -> Addr) : Sp := fun vs H Q _ => ∃ c r y l m a b xs ys, vs = [.ref c] /\ A1s CC H c r y l m a b xs ys /\ ∀ p dx H', H p = none -> C8 H H' -> H' p = some (.ins (cw y) dx []) -> Q (.ref p) H'
theorem Y4t : C5 ["self"] ["self"] (A2 B5s) := scK
theorem V6x {f fW CC CB : Addr} {cw : Wy -> Addr} {fd fdW : FuncData} (F : Fun K "way" "Context.way" B5s f fd) (D_way_of : Def K mg "way_of" ["name"] B1w fW fdW) (G_way_of : sI P w K mg base 1 fW fdW ["name"] (G2n K CB cw)) (C : D5f K mg CC) :
   sI P w K mg base 2 f fd ["self"] (C8x CC cw) := by
 refine F.okE Y4t (fun vs H Q E h => ?_) (fun X cdv A outer s H vs Q E hX hr hx h => ?_)
 . obtain ⟨c, r, y, l, m, a, b, xs, ys, rfl, _⟩ := h
   rfl
 subst hX
 obtain ⟨c, r, y, l, m, a, b, xs, ys, rfl, ⟨⟨dx, e⟩, _, _⟩, k⟩ := h
 refine ⟨_, (A6 (B0 (C9 D_way_of G_way_of hr hx (A0 (D6 (pv 0) rfl) A5)))), ?_⟩
 exact ⟨_, rfl, c, CC, dx, _, _, rfl, e, C.cl, C.n_rule, Y7a _ _ _ _ _ _, _, rfl, .inl ⟨y, rfl, k⟩⟩
def C9n (CC : Addr) : Sp := fun vs H Q _ => ∃ c r y l m a b xs ys, vs = [.ref c] /\ A1s CC H c r y l m a b xs ys /\ Q (.int (l - r + 1)) H
theorem Y5w : C5 ["self"] ["self"] (A2 B5q) := scK
theorem V7j {f CC : Addr} {fd : FuncData} (F : Fun K "lowest" "Context.lowest" B5q f fd) (C : D5f K mg CC) : sI P w K mg base 1 f fd ["self"] (C9n CC) := by
 refine A8.up (F.ok Y5w (fun vs H Q E h => ?_) (fun cdv A outer s H vs Q E hr h => ?_))
 . obtain ⟨c, r, y, l, m, a, b, xs, ys, rfl, _⟩ := h
   rfl
 obtain ⟨c, r, y, l, m, a, b, xs, ys, rfl, ⟨⟨dx, e⟩, _, _⟩, k⟩ := h
 refine ⟨_, (A6 (B0 (A9 J4 (A9 J8 (D6 (pv 0) rfl) (D6 (pv 0) rfl)) A1))), ?_⟩
 exact ⟨_, rfl, c, CC, dx, _, _, rfl, e, C.cl, C.n_least, D9t _ _ _ _ _ _, _, rfl, c, CC, dx, _, _, rfl, e, C.cl, C.n_room, A4t _ _ _ _ _ _, _, _, rfl, rfl, _, _, rfl, rfl, k⟩
def B8b (CC : Addr) : Sp := fun vs H Q _ => ∃ c r y l m a b xs ys, vs = [.ref c] /\ A1s CC H c r y l m a b xs ys /\ ∀ p, H p = none -> Q (.ref p) (upd H p (.lst xs))
theorem U0w : C5 ["self"] ["self"] (A2 A4e) := scK
theorem J4v {f CC : Addr} {fd : FuncData} (F : Fun K "flags" "Context.flags" A4e f fd) (C : D5f K mg CC) (O : Own mg) : sI P w K mg base 1 f fd ["self"] (B8b CC) := by
 refine A8.up (F.ok U0w (fun vs H Q E h => ?_) (fun cdv A outer s H vs Q E hr h => ?_))
 . obtain ⟨c, r, y, l, m, a, b, xs, ys, rfl, _⟩ := h
   rfl
 obtain ⟨c, r, y, l, m, a, b, xs, ys, rfl, ⟨⟨dx, e⟩, ha, _⟩, k⟩ := h
 refine ⟨_, (A6 (B0 (A0k G2h (by rfl) O.list_ boot_list (A0 (D6 (pv 0) rfl) A5)))), ?_⟩
 exact ⟨_, rfl, c, CC, dx, _, _, rfl, e, C.cl, C.n_risen, D9u _ _ _ _ _ _, a, xs, rfl, .inl (SqL.of ha), k⟩
structure A0ra (P : Program) (w : World) (K : Frag) (mg : Str -> Option Value) (base : Heap) (CC CB fI : Addr) (fdI : FuncData) : Prop where
 m : Mk K CC fI
 g : sI P w K mg base 3 fI fdI Q45 (C1w K CC CB)
theorem A0hz {C x dx : Addr} {H H' : Hp} (n1 : H x = none) (n2 : H dx = none) (ne : dx ≠ x) (e : Exc x (upd (upd H dx (.own x)) x (.ins C dx [])) H') : C8 H H' := fun b o h =>
 e b o (by rw [G6 (G7 h n1), G6 (G7 h n2)]; exact h) (G7 h n1)
theorem A0zk {CC CB x dx : Addr} {H : Hp} {Q : VK} {E : XK} {v1 v2 v3 v4 : V} {r : Int} {y : Wy} {l m : Int} (n1 : H x = none) (n2 : H dx = none) (ne : dx ≠ x) (h1 : v1 = .int r) (r1 : 1 <= r) (r2 : r <= 24) (h2 : v2 = .str y.name) (h3 : U0x l v3) (h4 : v4 = .int m) (m1 : 0 <= m) (m2 : m <= 60)
   (k : ∀ a b H', C8 H H' -> A1s CC H' x r y l m a b [] [] -> Q .non H') : C1w K CC CB [.ref x, v1, v2, v3, v4] (upd (upd H dx (.own x)) x (.ins CC dx [])) Q E :=
 ⟨x, dx, v1, v2, v3, v4, rfl, A7, .inl ⟨r, y, l, m, h1, r1, r2, h2, h3, h4, m1, m2, fun a b H' e _ _ c => k a b H' (A0hz n1 n2 ne e) c⟩⟩
abbrev B5k : Stmt := (J2 (top 16) 0)
theorem Y6q : C5 Q46 Q46 (A2 B5k) := scK
theorem V7w {f CT fI : Addr} {fd : FuncData} (F : Fun K "__init__" "Trapped.__init__" B5k f fd) (XI : V8b K CT fI) (hn : findIn K (.ref CT) "signal" = some none) : A8 P w K mg base CX0 1 f fd Q46 (G1e CT "signal") := by
 refine F.ok Y6q (fun vs H Q E h => ?_) (fun cdv A outer s H vs Q E hr h => ?_)
 . obtain ⟨e, t, v, rfl, _⟩ := h
   rfl
 obtain ⟨e, t, v, rfl, he, k⟩ := h
 refine ⟨_, (A6 (A0hx XI hn (pv 0) (pv 1) rfl)), ?_⟩
 exact ⟨_, rfl, _, rfl, e, t, rfl, he, fun d nd ne => k d nd ne⟩
abbrev A1u : Stmt := (J2 (top 67) 7)
theorem J4a (r s l m a b : V) : (A4r r s l m a b).length = 6 := rfl
theorem C8t (r s l m a b v : V) : V6 "risen" v (A4r r s l m a b) = A4r r s l m v b := rfl
def hit (ys zs : List Str) : Option Str := ys.find? fun t => zs.contains t
def C8p (K : Frag) (CC CB CT : Addr) : Sp := fun vs H Q E => ∃ c r y l m a b, ∃ (xs ys : List Str) (v : V), vs = [.ref c, v] /\ A1s CC H c r y l m a b (xs.map V.str) (ys.map V.str) /\ xs.length + 100 <= 1000 /\
 ((∃ (p : Addr) (zs : List Str), v = .ref p /\ H p = some (.lst (zs.map V.str)) /\ zs.length <= 100 /\ (∀ z ∈ zs, z ∈ B8e) /\
     (hit ys zs = none -> ∀ a' H', Exc c H H' -> H a' = none -> A1s CC H' c r y l m a' b ((Z1 (xs ++ zs)).map V.str) (ys.map V.str) -> Q .non H') /\
     (∀ t, hit ys zs = some t -> ∀ a' d H', Exc c H H' -> H a' = none -> A1s CC H' c r y l m a' b ((Z1 (xs ++ zs)).map V.str) (ys.map V.str) -> H d = none -> H' d = some (.xd [("signal", .str t)]) -> E (.ref CT) (some d) H')) \/
  (Y4n K H v /\ E (.ref CB) none H))
theorem scRaised : C5 ["self", "names", "name"] ["self", "names"] (A2 A1u) := scK
theorem V5v {f f1 f2 fX CC CB CT : Addr} {fd fd1 fd2 fdX : FuncData} (F : Fun K "raised" "Context.raised" A1u f fd) (D_need_signals : Def K mg "need_signals" ["names"] B7m f1 fd1) (G_need_signals : sI P w K mg base 1 f1 fd1 ["names"] (V3p K CB))
   (D_in_order : Def K mg "in_order" ["names"] B7f f2 fd2) (G_in_order : sI P w K mg base 1 f2 fd2 ["names"] (V3k K)) (C : D5f K mg CC)
   (gT : mg "Trapped" = some (.ref CT)) (XI : V8b K CT fX) (GX : A8 P w K mg base CX0 1 fX fdX Q46 (G1e CT "signal")) (BX : Binds K fdX Q46 []) : sI P w K mg base 3 f fd ["self", "names"] (C8p K CC CB CT) := by
 refine F.okE scRaised (fun vs H Q E h => ?_) (fun X cdv A outer s H vs Q E hX hr hx h => ?_)
 . obtain ⟨c, r, y, l, m, a, b, xs, ys, v, rfl, _⟩ := h
   rfl
 subst hX
 obtain ⟨c, r, y, l, m, a, b, xs, ys, v, rfl, ⟨⟨dx, e⟩, ha, hb⟩, lx, h⟩ := h
 refine ⟨_, (A3 (V7 (C9 D_need_signals G_need_signals hr hx (A0 (pv 1) A5))) (A3 (Z6 (pv 0) (C9 D_in_order G_in_order hr hx (A0 (A9 G2g (D6 (pv 0) rfl) (pv 1)) A5)) rfl) (A6 (B7y PassesOwn.leaving rfl (G1g (D6 (pv 0) rfl)) (J7 (i := 2) scRaised.nd rfl (Or.inl rfl)) (A6 (G4 (C7 A4c (pv 2) (pv 1) (by rfl)) (A6 (V5s gT XI GX BX hr hx (A0 (pv 2) A5))) D0)))))), ?_⟩
 rcases h with ⟨p, zs, rfl, hp, lz, hz, k1, k2⟩ | ⟨bad, k⟩
 . refine ⟨_, rfl, _, rfl, .inl ⟨p, zs, rfl, hp, hz, ?_⟩⟩
   refine ⟨_, rfl, c, CC, dx, _, _, rfl, e, C.cl, C.n_risen, D9u _ _ _ _ _ _, _, rfl, a, p, _, _, rfl, rfl, ha, hp, D7 (by rw [List.length_map, List.length_map]; omega), fun q nq => ?_⟩
   have u1 := C8.upd (o := .lst (xs.map V.str ++ zs.map V.str)) nq
   refine ⟨q, xs ++ zs, rfl, SqL.of (by rw [A7, List.map_append]), fun a' H1 s1 n1 e1 => ?_⟩
   have s2 := u1.trans s1
   refine ⟨_, rfl, c, CC, dx, _, rfl, s2 _ _ e, C.cl, C.n_risen, by rw [J4a]; decide, ?_⟩
   rw [C8t]
   have nbc : b ≠ c := A6y hb e (by intro z; cases z)
   have npc : p ≠ c := A6y hp e (by intro z; cases z)
   have nac : a' ≠ c := A6y e1 (s2 _ _ e) (by intro z; cases z)
   have x2 : Exc c H (upd H1 c (.ins CC dx (A4r (.int r) (.str y.name) (.int l) (.int m) (.ref a') (.ref b)))) := (Exc.of s2).trans Exc.upd
   have hb2 : (upd H1 c (.ins CC dx (A4r (.int r) (.str y.name) (.int l) (.int m) (.ref a') (.ref b)))) b = some (.lst (ys.map V.str)) := by rw [G6 nbc]; exact s2 _ _ hb
   have hp2 : (upd H1 c (.ins CC dx (A4r (.int r) (.str y.name) (.int l) (.int m) (.ref a') (.ref b)))) p = some (.lst (zs.map V.str)) := by rw [G6 npc]; exact s2 _ _ hp
   have ct : A1s CC (upd H1 c (.ins CC dx (A4r (.int r) (.str y.name) (.int l) (.int m) (.ref a') (.ref b)))) c r y l m a' b ((Z1 (xs ++ zs)).map V.str) (ys.map V.str) := ⟨⟨dx, A7⟩, by rw [G6 nac]; exact e1, hb2⟩
   refine ⟨_, rfl, c, CC, dx, _, _, rfl, A7, C.cl, C.n_trapped, J5k _ _ _ _ _ _, b, rfl, ⟨_, SqL.of hb2⟩, ?_⟩
   generalize upd H1 c (.ins CC dx (A4r (.int r) (.str y.name) (.int l) (.int m) (.ref a') (.ref b))) = H3 at x2 hb2 hp2 ct ⊢
   refine B1d (xs := ys.map V.str) (fun i σ H' => H' = H3 /\ (∀ t ∈ ys.take i, zs.contains t = false) /\ ∃ v, σ = [sr c, sr p, v]) ⟨rfl, by simp, none, rfl⟩ ?_ ?_ ?_
   . rintro i σ H' _ ⟨rfl, _⟩
     exact SqL.of hb2
   . rintro i x σ H' hi ⟨rfl, ht, v, rfl⟩
     rw [List.getElem?_map] at hi
     obtain ⟨t, hti, rfl⟩ := Option.map_eq_some_iff.mp hi
     refine ⟨_, rfl, _, rfl, p, _, rfl, .inl (SqL.of hp2), rfl, A1z _, _, rfl, ?_⟩
     have hlt : i < ys.length := (List.getElem?_eq_some_iff.mp hti).1
     have et : ys.take (i + 1) = ys.take i ++ [t] := by
       rw [List.take_succ_eq_append_getElem hlt, (List.getElem?_eq_some_iff.mp hti).2]
     cases hc : zs.contains t with
     | false =>
       rw [show (if false = true then !inV (V.str t) (zs.map V.str) else inV (V.str t) (zs.map V.str)) = false by rw [if_neg Bool.false_ne_true, A8g, hc]]
       refine V3 ⟨rfl, fun t' h' => ?_, _, rfl⟩
       rw [et] at h'
       rcases List.mem_append.mp h' with h' | h'
       . exact ht t' h'
       . rw [List.mem_singleton.mp h']; exact hc
     | true =>
       rw [show (if false = true then !inV (V.str t) (zs.map V.str) else inV (V.str t) (zs.map V.str)) = true by rw [if_neg Bool.false_ne_true, A8g, hc]]
       obtain ⟨dx', hc3⟩ := ct.ins
       refine Z5 ⟨_, rfl, _, rfl, fun d H4 s4 nd e4 => ?_⟩
       refine k2 t ?_ a' d H4 (x2.trans (.of s4)) ((u1.free n1)) (ct.same s4) (x2.none hc3 nd) e4
       unfold hit
       rw [List.find?_eq_some_iff_append]
       refine ⟨hc, ys.take i, ys.drop (i + 1), ?_, fun t' h' => by rw [ht t' h']; rfl⟩
       have := List.take_append_drop (i + 1) ys
       rw [et] at this
       rw [List.append_assoc] at this
       exact this.symm
   . rintro σ H' ⟨rfl, ht, v, rfl⟩
     refine k1 ?_ a' _ x2 (u1.free n1) ct
     unfold hit
     rw [List.find?_eq_none]
     rw [List.length_map, List.take_length] at ht
     intro t hm
     rw [ht t hm]
     exact Bool.false_ne_true
 exact ⟨_, rfl, _, rfl, .inr ⟨bad, k⟩⟩
def Wy.goes (y : Wy) (s last part : Int) : Bool := match y with
 | .down => false
 | .up => true
 | .floor => decide (V.int s = V.int 1)
 | .ceiling => decide (V.int s = V.int 0)
 | .halfUp => decide (part >= 2)
 | .halfDown => decide (V.int part = V.int 3)
 | .halfEven => if decide (V.int part = V.int 3) = true then true else if decide (V.int part = V.int 2) = true then decide (V.int (last % 2) = V.int 1) else false
 | .fiveUp => inV (.int last) [.int 0, .int 5]
def Wy.toEnd (y : Wy) (s : Int) : Bool := match y with
 | .down => false
 | .up => true
 | .floor => decide (V.int s = V.int 1)
 | .ceiling => decide (V.int s = V.int 0)
 | .halfUp => true
 | .halfDown => true
 | .halfEven => true
 | .fiveUp => false
def A7w (y : Wy) : Sp := fun vs H Q _ => ∃ p s l t, vs = [.ref p, .int s, .int l, .int t] /\ ∀ H', C8 H H' -> Q (.bl (y.goes s l t)) H'
def A3p (y : Wy) : Sp := fun vs H Q _ => ∃ p s, vs = [.ref p, .int s] /\ ∀ H', C8 H H' -> Q (.bl (y.toEnd s)) H'
def WayU (P : Program) (w : World) (K : Frag) (mg : Str -> Option Value) (base : Heap) (C : Addr) (y : Wy) : Prop := Has P w K mg base C "goes_up" 1 Q0 (A7w y)
def WayE (P : Program) (w : World) (K : Frag) (mg : Str -> Option Value) (base : Heap) (C : Addr) (y : Wy) : Prop := Has P w K mg base C "to_end" 1 Q3 (A3p y)
abbrev sU0 : Stmt := (J2 (top 56) 1)
theorem scU0 : C5 Q0 Q0 (A2 sU0) := scK
theorem A0xw {f : Addr} {fd : FuncData} (F : Fun K "goes_up" "Down.goes_up" sU0 f fd) : sI P w K mg base 1 f fd Q0 (A7w .down) := by
 refine A8.up (F.ok scU0 (fun vs H Q E h => ?_) (fun cdv A outer s H vs Q E hr h => ?_))
 . obtain ⟨p, z, l, t, rfl, _⟩ := h
   rfl
 obtain ⟨p, z, l, t, rfl, k⟩ := h
 refine ⟨_, (A6 (B0 A3k)), ?_⟩
 exact k H (C8.refl H)
abbrev sT0 : Stmt := (J2 (top 56) 2)
theorem scT0 : C5 Q3 Q3 (A2 sT0) := scK
theorem A0xc {f : Addr} {fd : FuncData} (F : Fun K "to_end" "Down.to_end" sT0 f fd) : sI P w K mg base 1 f fd Q3 (A3p .down) := by
 refine A8.up (F.ok scT0 (fun vs H Q E h => ?_) (fun cdv A outer s H vs Q E hr h => ?_))
 . obtain ⟨p, z, rfl, _⟩ := h
   rfl
 obtain ⟨p, z, rfl, k⟩ := h
 refine ⟨_, (A6 (B0 A3k)), ?_⟩
 exact k H (C8.refl H)
abbrev sU1 : Stmt := (J2 (top 57) 1)
theorem scU1 : C5 Q0 Q0 (A2 sU1) := scK
theorem A0ya {f : Addr} {fd : FuncData} (F : Fun K "goes_up" "Up.goes_up" sU1 f fd) : sI P w K mg base 1 f fd Q0 (A7w .up) := by
 refine A8.up (F.ok scU1 (fun vs H Q E h => ?_) (fun cdv A outer s H vs Q E hr h => ?_))
 . obtain ⟨p, z, l, t, rfl, _⟩ := h
   rfl
 obtain ⟨p, z, l, t, rfl, k⟩ := h
 refine ⟨_, (A6 (B0 A3k)), ?_⟩
 exact k H (C8.refl H)
abbrev sT1 : Stmt := (J2 (top 57) 2)
theorem scT1 : C5 Q3 Q3 (A2 sT1) := scK
theorem A0zn {f : Addr} {fd : FuncData} (F : Fun K "to_end" "Up.to_end" sT1 f fd) : sI P w K mg base 1 f fd Q3 (A3p .up) := by
 refine A8.up (F.ok scT1 (fun vs H Q E h => ?_) (fun cdv A outer s H vs Q E hr h => ?_))
 . obtain ⟨p, z, rfl, _⟩ := h
   rfl
 obtain ⟨p, z, rfl, k⟩ := h
 refine ⟨_, (A6 (B0 A3k)), ?_⟩
 exact k H (C8.refl H)
abbrev sU2 : Stmt := (J2 (top 58) 1)
theorem scU2 : C5 Q0 Q0 (A2 sU2) := scK
theorem A0xn {f : Addr} {fd : FuncData} (F : Fun K "goes_up" "Floor.goes_up" sU2 f fd) : sI P w K mg base 1 f fd Q0 (A7w .floor) := by
 refine A8.up (F.ok scU2 (fun vs H Q E h => ?_) (fun cdv A outer s H vs Q E hr h => ?_))
 . obtain ⟨p, z, l, t, rfl, _⟩ := h
   rfl
 obtain ⟨p, z, l, t, rfl, k⟩ := h
 refine ⟨_, (A6 (B0 (G9 G2 (pv 1) A1 (C6 _)))), ?_⟩
 exact ⟨_, rfl, rfl, k H (C8.refl H)⟩
abbrev sT2 : Stmt := (J2 (top 58) 2)
theorem scT2 : C5 Q3 Q3 (A2 sT2) := scK
theorem A0zm {f : Addr} {fd : FuncData} (F : Fun K "to_end" "Floor.to_end" sT2 f fd) : sI P w K mg base 1 f fd Q3 (A3p .floor) := by
 refine A8.up (F.ok scT2 (fun vs H Q E h => ?_) (fun cdv A outer s H vs Q E hr h => ?_))
 . obtain ⟨p, z, rfl, _⟩ := h
   rfl
 obtain ⟨p, z, rfl, k⟩ := h
 refine ⟨_, (A6 (B0 (G9 G2 (pv 1) A1 (C6 _)))), ?_⟩
 exact ⟨_, rfl, rfl, k H (C8.refl H)⟩
abbrev sU3 : Stmt := (J2 (top 59) 1)
theorem scU3 : C5 Q0 Q0 (A2 sU3) := scK
theorem A0yk {f : Addr} {fd : FuncData} (F : Fun K "goes_up" "Ceiling.goes_up" sU3 f fd) : sI P w K mg base 1 f fd Q0 (A7w .ceiling) := by
 refine A8.up (F.ok scU3 (fun vs H Q E h => ?_) (fun cdv A outer s H vs Q E hr h => ?_))
 . obtain ⟨p, z, l, t, rfl, _⟩ := h
   rfl
 obtain ⟨p, z, l, t, rfl, k⟩ := h
 refine ⟨_, (A6 (B0 (G9 G2 (pv 1) A1 (C6 _)))), ?_⟩
 exact ⟨_, rfl, rfl, k H (C8.refl H)⟩
abbrev sT3 : Stmt := (J2 (top 59) 2)
theorem scT3 : C5 Q3 Q3 (A2 sT3) := scK
theorem A0zt {f : Addr} {fd : FuncData} (F : Fun K "to_end" "Ceiling.to_end" sT3 f fd) : sI P w K mg base 1 f fd Q3 (A3p .ceiling) := by
 refine A8.up (F.ok scT3 (fun vs H Q E h => ?_) (fun cdv A outer s H vs Q E hr h => ?_))
 . obtain ⟨p, z, rfl, _⟩ := h
   rfl
 obtain ⟨p, z, rfl, k⟩ := h
 refine ⟨_, (A6 (B0 (G9 G2 (pv 1) A1 (C6 _)))), ?_⟩
 exact ⟨_, rfl, rfl, k H (C8.refl H)⟩
abbrev sU4 : Stmt := (J2 (top 60) 1)
theorem scU4 : C5 Q0 Q0 (A2 sU4) := scK
theorem A0zp {f : Addr} {fd : FuncData} (F : Fun K "goes_up" "HalfUp.goes_up" sU4 f fd) : sI P w K mg base 1 f fd Q0 (A7w .halfUp) := by
 refine A8.up (F.ok scU4 (fun vs H Q E h => ?_) (fun cdv A outer s H vs Q E hr h => ?_))
 . obtain ⟨p, z, l, t, rfl, _⟩ := h
   rfl
 obtain ⟨p, z, l, t, rfl, k⟩ := h
 refine ⟨_, (A6 (B0 (G9 D9r (pv 3) A1 (C6 _)))), ?_⟩
 exact ⟨_, rfl, _, _, rfl, rfl, k H (C8.refl H)⟩
abbrev sT4 : Stmt := (J2 (top 60) 2)
theorem scT4 : C5 Q3 Q3 (A2 sT4) := scK
theorem A0zu {f : Addr} {fd : FuncData} (F : Fun K "to_end" "HalfUp.to_end" sT4 f fd) : sI P w K mg base 1 f fd Q3 (A3p .halfUp) := by
 refine A8.up (F.ok scT4 (fun vs H Q E h => ?_) (fun cdv A outer s H vs Q E hr h => ?_))
 . obtain ⟨p, z, rfl, _⟩ := h
   rfl
 obtain ⟨p, z, rfl, k⟩ := h
 refine ⟨_, (A6 (B0 A3k)), ?_⟩
 exact k H (C8.refl H)
abbrev sU5 : Stmt := (J2 (top 61) 1)
theorem scU5 : C5 Q0 Q0 (A2 sU5) := scK
theorem A0xg {f : Addr} {fd : FuncData} (F : Fun K "goes_up" "HalfDown.goes_up" sU5 f fd) : sI P w K mg base 1 f fd Q0 (A7w .halfDown) := by
 refine A8.up (F.ok scU5 (fun vs H Q E h => ?_) (fun cdv A outer s H vs Q E hr h => ?_))
 . obtain ⟨p, z, l, t, rfl, _⟩ := h
   rfl
 obtain ⟨p, z, l, t, rfl, k⟩ := h
 refine ⟨_, (A6 (B0 (G9 G2 (pv 3) A1 (C6 _)))), ?_⟩
 exact ⟨_, rfl, rfl, k H (C8.refl H)⟩
abbrev sT5 : Stmt := (J2 (top 61) 2)
theorem scT5 : C5 Q3 Q3 (A2 sT5) := scK
theorem A0xe {f : Addr} {fd : FuncData} (F : Fun K "to_end" "HalfDown.to_end" sT5 f fd) : sI P w K mg base 1 f fd Q3 (A3p .halfDown) := by
 refine A8.up (F.ok scT5 (fun vs H Q E h => ?_) (fun cdv A outer s H vs Q E hr h => ?_))
 . obtain ⟨p, z, rfl, _⟩ := h
   rfl
 obtain ⟨p, z, rfl, k⟩ := h
 refine ⟨_, (A6 (B0 A3k)), ?_⟩
 exact k H (C8.refl H)
abbrev sU6 : Stmt := (J2 (top 62) 1)
theorem scU6 : C5 Q0 Q0 (A2 sU6) := scK
theorem A0yc {f : Addr} {fd : FuncData} (F : Fun K "goes_up" "HalfEven.goes_up" sU6 f fd) : sI P w K mg base 1 f fd Q0 (A7w .halfEven) := by
 refine A8.up (F.ok scU6 (fun vs H Q E h => ?_) (fun cdv A outer s H vs Q E hr h => ?_))
 . obtain ⟨p, z, l, t, rfl, _⟩ := h
   rfl
 obtain ⟨p, z, l, t, rfl, k⟩ := h
 refine ⟨_, (A6 (B0 (V4d (G9 G2 (pv 3) A1 (C6 _)) (A6f (B1t (G9 G2 (pv 3) A1 (C6 _)) (A6f (G9 G2 (A9 J0 (pv 2) A1) A1 (C6 _)))))))), ?_⟩
 have k := k H (C8.refl H)
 unfold Wy.goes at k
 refine ⟨_, rfl, rfl, _, rfl, ?_⟩
 cases e : decide (V.int t = V.int 3) with
 | true => rw [e] at k; exact Z5 k
 | false =>
   rw [e] at k
   refine V3 ⟨_, rfl, rfl, _, rfl, ?_⟩
   cases e2 : decide (V.int t = V.int 2) with
   | true => rw [e2] at k; exact Z5 ⟨_, rfl, _, _, rfl, rfl, (by decide : (0 : Int) < 2), rfl, k⟩
   | false => rw [e2] at k; exact V3 k
abbrev sT6 : Stmt := (J2 (top 62) 2)
theorem scT6 : C5 Q3 Q3 (A2 sT6) := scK
theorem A0yp {f : Addr} {fd : FuncData} (F : Fun K "to_end" "HalfEven.to_end" sT6 f fd) : sI P w K mg base 1 f fd Q3 (A3p .halfEven) := by
 refine A8.up (F.ok scT6 (fun vs H Q E h => ?_) (fun cdv A outer s H vs Q E hr h => ?_))
 . obtain ⟨p, z, rfl, _⟩ := h
   rfl
 obtain ⟨p, z, rfl, k⟩ := h
 refine ⟨_, (A6 (B0 A3k)), ?_⟩
 exact k H (C8.refl H)
abbrev sU7 : Stmt := (J2 (top 63) 1)
theorem scU7 : C5 Q0 Q0 (A2 sU7) := scK
theorem A0xd {f : Addr} {fd : FuncData} (F : Fun K "goes_up" "FiveUp.goes_up" sU7 f fd) : sI P w K mg base 1 f fd Q0 (A7w .fiveUp) := by
 refine A8.up (F.ok scU7 (fun vs H Q E h => ?_) (fun cdv A outer s H vs Q E hr h => ?_))
 . obtain ⟨p, z, l, t, rfl, _⟩ := h
   rfl
 obtain ⟨p, z, l, t, rfl, k⟩ := h
 refine ⟨_, (A6 (B0 (G9 A4c (pv 2) (U5 (A0 A1 (A0 A1 A5))) (by rfl)))), ?_⟩
 exact ⟨_, rfl, D7 (by decide), fun q nq => ⟨q, _, rfl, .inr (SqT.of A7), rfl, rfl, k _ (C8.upd nq)⟩⟩
abbrev sT7 : Stmt := (J2 (top 63) 2)
theorem scT7 : C5 Q3 Q3 (A2 sT7) := scK
theorem A0xj {f : Addr} {fd : FuncData} (F : Fun K "to_end" "FiveUp.to_end" sT7 f fd) : sI P w K mg base 1 f fd Q3 (A3p .fiveUp) := by
 refine A8.up (F.ok scT7 (fun vs H Q E h => ?_) (fun cdv A outer s H vs Q E hr h => ?_))
 . obtain ⟨p, z, rfl, _⟩ := h
   rfl
 obtain ⟨p, z, rfl, k⟩ := h
 refine ⟨_, (A6 (B0 A3k)), ?_⟩
 exact k H (C8.refl H)
abbrev A5j : Stmt := (top 34)
abbrev A2r : Stmt := (top 35)
abbrev Z7 : Stmt := (top 36)
abbrev A5m : Stmt := (top 37)
abbrev A5n : Stmt := (top 38)
abbrev B1p : Stmt := (top 39)
abbrev B1q : Stmt := (top 40)
abbrev A4v : Stmt := (top 41)
abbrev A4z : Stmt := (top 42)
abbrev A0j : Stmt := (top 43)
structure Cv where
 r : Int
 y : Wy
 l : Int
 m : Int
structure Cv.Ok (c : Cv) : Prop where
 r1 : 1 <= c.r
 r2 : c.r <= 24
 l1 : -60 <= c.l
 l2 : c.l <= 0
 m1 : 0 <= c.m
 m2 : c.m <= 60
def C6k (ideal : Int) : Nat -> Int -> Int -> Int × Int
 | 0, f, p => (f, p)
 | n + 1, f, p => if f % 10 = 0 then C6k ideal n (f / 10) (p + 1) else (f, p)
def Z2 (ideal f p : Int) : Int × Int := C6k ideal (ideal - p).toNat f p
theorem C8m {ideal f p : Int} (h : p < ideal) (z : f % 10 = 0) : Z2 ideal f p = Z2 ideal (f / 10) (p + 1) := by
 unfold Z2
 obtain ⟨n, hn⟩ : ∃ n, (ideal - p).toNat = n + 1 := ⟨(ideal - p).toNat - 1, by omega⟩
 rw [hn, show (ideal - (p + 1)).toNat = n by omega]
 show (if f % 10 = 0 then C6k ideal n (f / 10) (p + 1) else (f, p)) = _
 rw [if_pos z]
theorem D0f {ideal f p : Int} (h : ¬ (p < ideal /\ f % 10 = 0)) : Z2 ideal f p = (f, p) := by
 unfold Z2
 by_cases q : p < ideal
 . obtain ⟨n, hn⟩ : ∃ n, (ideal - p).toNat = n + 1 := ⟨(ideal - p).toNat - 1, by omega⟩
   rw [hn]
   show (if f % 10 = 0 then C6k ideal n (f / 10) (p + 1) else (f, p)) = _
   rw [if_neg fun z => h ⟨q, z⟩]
 rw [show (ideal - p).toNat = 0 by omega]
 rfl
def V4 (f : Int) : Int := ((Str.ofString (toString f)).length : Nat)
def upI (y : Wy) (s wh pt : Int) : Int := if (if pt = 0 then false else y.goes s (wh % 10) pt) = true then wh + 1 else wh
def B6u (r f q : Int) : Int × Int := if f = A4 r then (f / 10, q + 1) else (f, q)
def Z3 (c : Cv) (s wh pt q ideal : Int) : Int × Int := if pt = 0 then Z2 ideal wh q else B6u c.r (upI c.y s wh pt) q
def A3m (m f p : Int) : Bool := if f = 0 then false else decide (p + V4 f - 1 > m)
def C8v (c : Cv) (s : Int) : Nm := if c.y.toEnd s = true then ⟨.end_, s, 0, 0⟩ else ⟨.plain, s, A4 c.r - 1, c.m - c.r + 1⟩
def Y0 (pt : Int) (cut : Bool) : List Str := if pt = 0 then (if cut = true then ["cut"] else []) else ["off", "cut"]
def A1a (l L pt : Int) : List Str := if L >= l then [] else if pt = 0 then ["faint"] else ["sunk", "faint"]
def C0m (c : Cv) (s wh pt L q ideal : Int) : Nm × List Str :=
 if A3m c.m (Z3 c s wh pt q ideal).1 (Z3 c s wh pt q ideal).2 = true then (C8v c s, Q53)
 else (⟨.plain, s, (Z3 c s wh pt q ideal).1, (Z3 c s wh pt q ideal).2⟩, Y0 pt (decide ((Z3 c s wh pt q ideal).2 > ideal)) ++ A1a c.l L pt)
def A0u (a b : Int) : Int := if b > a then b else a
def J5h (a b : Int) : Int := if b < a then b else a
def A0n (CC : Addr) (H : Hp) (c : Addr) (v : Cv) (a b : Addr) (xs ys : List Str) : Prop := A1s CC H c v.r v.y v.l v.m a b (xs.map V.str) (ys.map V.str)
theorem A0n.same {CC : Addr} {H H' : Hp} {c : Addr} {v : Cv} {a b : Addr} {xs ys : List Str} (h : A0n CC H c v a b xs ys) (e : C8 H H') : A0n CC H' c v a b xs ys := A1s.same h e
theorem C8y {CN : Addr} {H : Hp} {Q : VK} {E : XK} {k s f p : V} (h : ∀ n H', H n = none -> C8 H H' -> A5b CN H' n k s f p -> Q (.ref n) H') :
   ∀ x dx, H x = none -> H dx = none -> dx ≠ x -> G2q CN (.ref x :: ([k, s, f, p] ++ [])) (upd (upd H dx (.own x)) x (.ins CN dx [])) (fun v H2 => v = .non /\ Q (.ref x) H2) E := by
 intro x dx nx nd ne
 refine ⟨x, dx, k, s, f, p, rfl, A7, fun H' e kp => ⟨rfl, h x H' nx (fun b o z => ?_) ⟨dx, e⟩⟩⟩
 refine kp b o ?_ (G7 z nx)
 rw [G6 (G7 z nx), G6 (G7 z nd)]
 exact z
structure B8c (P : Program) (w : World) (K : Frag) (mg : Str -> Option Value) (base : Heap) (CC CB CT CW : Addr) (cw : Wy -> Addr) : Prop where
 c : D5f K mg CC
 way : Has P w K mg base CC "way" 2 ["self"] (C8x CC cw)
 low : Has P w K mg base CC "lowest" 1 ["self"] (C9n CC)
 raised : Has P w K mg base CC "raised" 3 ["self", "names"] (C8p K CC CB CT)
 wc : ∀ y : Wy, C7f K mg y.cls (cw y) CW
 u : ∀ y : Wy, WayU P w K mg base (cw y) y
 e : ∀ y : Wy, WayE P w K mg base (cw y) y
def D8u (CN : Addr) : Sp := fun vs H Q _ => ∃ i s f p : Int, vs = [.int i, .int s, .int f, .int p] /\ ∀ n H', H n = none -> C8 H H' -> V1 CN H' n ⟨.plain, s, (Z2 i f p).1, (Z2 i f p).2⟩ -> Q (.ref n) H'
theorem scNearest : C5 Q23 Q23 (A2 A2r) := scK
theorem U0e {f fI CN : Addr} {fd fdI : FuncData} (D : Def K mg "nearest_to" Q23 A2r f fd) (N : Num K mg CN) (M : C0n P w K mg base CN fI fdI) : sI P w K mg base 3 f fd Q23 (D8u CN) := by
 refine A8.up (D.F.ok scNearest (fun vs H Q E h => ?_) (fun cdv A outer s H vs Q E hr h => ?_))
 . obtain ⟨i, s, f, p, rfl, _⟩ := h
   rfl
 obtain ⟨i, sg, fg, pw, rfl, k⟩ := h
 have hx : U1 (A1x CX0 P w K mg base Q23 "nearest_to" (A2 A2r) f cdv A outer s H E).nox EKF := Y1
 refine ⟨_, (A3 (A2q PassesOwn.never (PW.pt (C1t (C7 B6s (pv 3) (pv 0) (C6 _)) (B5p (C7 G2 (A9 J0 (pv 2) A1) A1 (C6 _))))) (A3 (D3 (i := 2) scNearest.nd rfl (Or.inl rfl) (A9 D8 (pv 2) A1)) (A6 (D3 (i := 3) scNearest.nd rfl (Or.inl rfl) (A9 J4 (pv 3) A1))))) (A6 (B0 (A6x M.m (A8.up M.g) hr N.g M.b .nil hx (A0 D5 (A0 (pv 1) (A0 (pv 2) (A0 (pv 3) A5)))))))), ?_⟩
 have d10 : (0 : Int) < 10 /\ (10 : Int).natAbs.log2 < 9000 := ⟨by decide, by decide +kernel⟩
 refine A0z (fun σ H2 => H2 = H /\ ∃ f p : Int, Z2 i f p = Z2 i fg pw /\ σ = [si i, si sg, si f, si p]) (fun σ _ => match σ with | [_, _, _, some (.int p)] => (i - p).toNat | _ => 0) ?_ ?_ ?_
 . exact ⟨rfl, fg, pw, rfl, rfl⟩
 . rintro σ H2 ⟨rfl, f, p, e, rfl⟩
   have stop : ¬ (p < i /\ f % 10 = 0) -> ∀ n H', H2 n = none -> C8 H2 H' -> A5b CN H' n (.str "plain") (.int sg) (.int f) (.int p) -> Q (.ref n) H' := fun h n H' nn sm num => by
     refine k n H' nn sm ?_
     rw [<- e, D0f h]
     exact num
   refine ⟨_, rfl, _, rfl, _, _, rfl, rfl, _, rfl, J1 (fun h1 => ?_) (fun h1 => V3 ⟨_, rfl, _, rfl, _, rfl, C8y (stop fun q => h1 q.1)⟩)⟩
   refine ⟨_, rfl, _, _, rfl, rfl, d10.1, rfl, _, rfl, J1 (fun h2 => ?_) (fun h2 => ⟨_, rfl, _, rfl, _, rfl, C8y (stop fun q => h2 (congrArg V.int q.2))⟩)⟩
   have h1 : p < i := h1
   have h2 : f % 10 = 0 := by injection h2
   refine ⟨_, rfl, _, _, rfl, rfl, d10, _, rfl, _, _, rfl, rfl, ⟨rfl, f / 10, p + 1, (C8m h1 h2).symm.trans e, rfl⟩, ?_⟩
   show (i - (p + 1)).toNat < (i - p).toNat
   omega
 rintro σ H2 Q1 Q2 hQ ⟨v, e, v2, e2, a, b, e3, e4, c, e5, q⟩
 refine ⟨v, e, v2, e2, a, b, e3, e4, c, e5, ?_⟩
 cases c with
 | false => exact V3 (hQ _ _ (by simpa using q))
 | true =>
   have q : _ := q
   rw [if_pos rfl] at q ⊢
   obtain ⟨v3, e6, a2, b2, e7, e8, e9, e10, e11, e12, q⟩ := q
   exact ⟨v3, e6, a2, b2, e7, e8, e9, e10, e11, e12, hQ _ _ q⟩
def C6t (CC : Addr) : Sp := fun vs H Q _ => ∃ c v a b xs ys p, ∃ s wh pt : Int, vs = [.ref c, .int s, .ref p] /\ A0n CC H c v a b xs ys /\ H p = some (.tup [.int wh, .int pt]) /\ ∀ H', C8 H H' -> Q (.int (upI v.y s wh pt)) H'
theorem J4y : C5 Q24 Q24 (A2 Z7) := scK
theorem G2a {f CC CB CT CW : Addr} {cw : Wy -> Addr} {fd : FuncData} (D : Def K mg "neighbour" Q24 Z7 f fd) (C : B8c P w K mg base CC CB CT CW cw) : sI P w K mg base 3 f fd Q24 (C6t CC) := by
 refine A8.up (D.F.ok J4y (fun vs H Q E h => ?_) (fun cdv A outer s H vs Q E hr h => ?_))
 . obtain ⟨c, v, a, b, xs, ys, p, sg, wh, pt, rfl, _⟩ := h
   rfl
 obtain ⟨c, v, a, b, xs, ys, p, sg, wh, pt, rfl, hc, hp, k⟩ := h
 have hx : U1 (A1x CX0 P w K mg base Q24 "neighbour" (A2 Z7) f cdv A outer s H E).nox EKF := Y1
 obtain ⟨fW, fdW, mW, gW, bW⟩ := C.way
 obtain ⟨fU, fdU, mU, gU, bU⟩ := C.u v.y
 refine ⟨_, (A3 (G4 (PW.pt (C1t (C7 C9h (D9 G3 (pv 2) A1 (fun _ _ => rfl)) A1 (C6 _)) (B5p (Y2 (C6j (A6d (pv 0) C.c.cl mW gW hr bW .nil hx) (C.wc v.y).cl mU gU hr bU .nil hx (A0 (pv 1) (A0 (A9 J0 (D9 G3 (pv 2) A1 (fun _ _ => rfl)) A1) (A0 (D9 G3 (pv 2) A1 (fun _ _ => rfl)) A5)))))))) (A6 (B0 (A9 J4 (D9 G3 (pv 2) A1 (fun _ _ => rfl)) A1))) D0) (A6 (B0 (D9 G3 (pv 2) A1 (fun _ _ => rfl))))), ?_⟩
 obtain ⟨⟨dx, e⟩, _, _⟩ := id hc
 unfold upI at k
 refine ⟨_, rfl, p, _, _, _, rfl, rfl, SqT.of hp, B7 (j := 1) rfl, rfl, _, rfl, ?_⟩
 by_cases h0 : pt = 0
 . subst h0
   rw [if_pos rfl, if_neg Bool.false_ne_true] at k
   exact C8r rfl (V3 ⟨_, rfl, p, _, _, _, rfl, rfl, SqT.of hp, B7 (j := 0) rfl, k H (C8.refl H)⟩)
 rw [if_neg h0] at k
 rw [decide_eq_false (fun q => h0 (by injection q) : ¬ V.int pt = V.int 0)]
 refine Z5 ⟨_, rfl, c, dx, _, rfl, e, D0d _ _ _ _ _ _, c, v.r, v.y, v.l, v.m, a, b, _, _, rfl, hc, fun q dq H1 nq s1 eq => ?_⟩
 refine ⟨q, dq, _, rfl, eq, rfl, _, rfl, _, rfl, p, _, _, _, rfl, rfl, SqT.of (s1 _ _ hp), B7 (j := 0) rfl, _, _, rfl, rfl, (by decide : (0 : Int) < 10), _, rfl, p, _, _, _, rfl, rfl, SqT.of (s1 _ _ hp), B7 (j := 1) rfl, q, sg, wh % 10, pt, rfl, fun H2 s2 => ⟨_, rfl, ?_⟩⟩
 have s3 := s1.trans s2
 cases g : v.y.goes sg (wh % 10) pt with
 | true =>
   rw [g, if_pos rfl] at k
   exact Z5 ⟨_, rfl, p, _, _, _, rfl, rfl, SqT.of (s3 _ _ hp), B7 (j := 0) rfl, _, _, rfl, rfl, k H2 s3⟩
 | false =>
   rw [g, if_neg Bool.false_ne_true] at k
   exact V3 ⟨_, rfl, p, _, _, _, rfl, rfl, SqT.of (s3 _ _ hp), B7 (j := 0) rfl, k H2 s3⟩
def J4t (CN CC : Addr) : Sp := fun vs H Q _ => ∃ c v a b xs ys, ∃ s f q : Int, vs = [.ref c, .int s, .int f, .int q] /\ A0n CC H c v a b xs ys /\ v.Ok /\ ∀ n H', H n = none -> C8 H H' -> V1 CN H' n ⟨.plain, s, (B6u v.r f q).1, (B6u v.r f q).2⟩ -> Q (.ref n) H'
theorem Y6z : C5 Q25 Q25 (A2 A5m) := scK
theorem V6q {f f1 fI CN CC CB CT CW : Addr} {cw : Wy -> Addr} {fd fd1 fdI : FuncData} (D : Def K mg "within_room" Q25 A5m f fd) (D_ten_to : Def K mg "ten_to" ["count"] A0q f1 fd1) (G_ten_to : sI P w K mg base 2 f1 fd1 ["count"] A2h) (C : B8c P w K mg base CC CB CT CW cw) (N : Num K mg CN) (M : C0n P w K mg base CN fI fdI) :
   sI P w K mg base 3 f fd Q25 (J4t CN CC) := by
 refine A8.up (D.F.ok Y6z (fun vs H Q E h => ?_) (fun cdv A outer s H vs Q E hr h => ?_))
 . obtain ⟨c, v, a, b, xs, ys, sg, f, q, rfl, _⟩ := h
   rfl
 obtain ⟨c, v, a, b, xs, ys, sg, fg, q, rfl, hc, ok, k⟩ := h
 have hx : U1 (A1x CX0 P w K mg base Q25 "within_room" (A2 A5m) f cdv A outer s H E).nox EKF := Y1
 refine ⟨_, (A3 (G4 (C7 G2 (pv 2) (C9 D_ten_to G_ten_to hr hx (A0 (D6 (pv 0) rfl) A5)) (C6 _)) (A6 (B0 (A6x M.m (A8.up M.g) hr N.g M.b .nil hx (A0 D5 (A0 (pv 1) (A0 (A9 D8 (pv 2) A1) (A0 (A9 J4 (pv 3) A1) A5))))))) D0) (A6 (B0 (A6x M.m (A8.up M.g) hr N.g M.b .nil hx (A0 D5 (A0 (pv 1) (A0 (pv 2) (A0 (pv 3) A5)))))))), ?_⟩
 have d10 : (0 : Int) < 10 /\ (10 : Int).natAbs.log2 < 9000 := ⟨by decide, by decide +kernel⟩
 obtain ⟨⟨dx, e⟩, _, _⟩ := id hc
 have r1 := ok.r1; have r2 := ok.r2
 refine ⟨_, rfl, _, rfl, c, CC, dx, _, _, rfl, e, C.c.cl, C.c.n_room, A4t _ _ _ _ _ _, v.r.toNat, (by rw [Int.toNat_of_nonneg (by omega)]; rfl), by omega, rfl, _, rfl, ?_⟩
 unfold B6u at k
 refine J1 (fun h => ?_) (fun h => ?_)
 . have h : fg = A4 v.r := by injection h
   rw [if_pos h] at k
   exact ⟨_, rfl, _, rfl, _, _, rfl, rfl, d10, _, rfl, _, _, rfl, rfl, C8y k⟩
 have h : ¬ fg = A4 v.r := fun z => h (congrArg V.int z)
 rw [if_neg h] at k
 exact ⟨_, rfl, _, rfl, _, rfl, C8y k⟩
def J4h (CN CC : Addr) : Sp := fun vs H Q _ => ∃ c v a b xs ys n x, vs = [.ref c, .ref n] /\ A0n CC H c v a b xs ys /\ V1 CN H n x /\ x.f.natAbs < 2 ^ 300 /\ Q (.bl (A3m v.m x.f x.p)) H
theorem Y5k : C5 Q12 Q12 (A2 A5n) := scK
theorem V7e {f f1 CN CC CB CT CW : Addr} {cw : Wy -> Addr} {fd fd1 : FuncData} (D : Def K mg "is_beyond" Q12 A5n f fd) (D_lead_of : Def K mg "lead_of" ["number"] C9y f1 fd1) (G_lead_of : sI P w K mg base 1 f1 fd1 ["number"] (Y4g CN)) (C : B8c P w K mg base CC CB CT CW cw) (N : Num K mg CN) :
   sI P w K mg base 2 f fd Q12 (J4h CN CC) := by
 refine A8.up (D.F.ok Y5k (fun vs H Q E h => ?_) (fun cdv A outer s H vs Q E hr h => ?_))
 . obtain ⟨c, v, a, b, xs, ys, n, x, rfl, _⟩ := h
   rfl
 obtain ⟨c, v, a, b, xs, ys, n, x, rfl, hc, hn, hf, k⟩ := h
 have hx : U1 (A1x CX0 P w K mg base Q12 "is_beyond" (A2 A5n) f cdv A outer s H E).nox EKF := Y1
 refine ⟨_, (A6 (B0 (B1t (G9 C9h (D6 (pv 1) rfl) A1 (C6 _)) (A6f (G9 A7b (C9 D_lead_of G_lead_of hr hx (A0 (pv 1) A5)) (D6 (pv 0) rfl) (C6 _)))))), ?_⟩
 obtain ⟨⟨dx, e⟩, _, _⟩ := id hc
 obtain ⟨dn, en⟩ := id hn
 unfold A3m at k
 refine ⟨_, rfl, n, CN, dn, _, _, rfl, en, N.cl, N.n3, B6n _ _ _ _, rfl, _, rfl, ?_⟩
 by_cases h0 : x.f = 0
 . rw [if_pos h0] at k
   rw [decide_eq_true (congrArg V.int h0)]
   exact V3 k
 rw [if_neg h0] at k
 rw [decide_eq_false (fun q => h0 (by injection q) : ¬ V.int x.f = V.int 0)]
 exact Z5 ⟨_, rfl, n, _, _, _, _, rfl, hn, hf, _, rfl, c, CC, dx, _, _, rfl, e, C.c.cl, C.c.n_most, C8b _ _ _ _ _ _, _, _, rfl, rfl, k⟩
def V3v (CN CC : Addr) : Sp := fun vs H Q _ => ∃ c v a b xs ys, ∃ s : Int, vs = [.ref c, .int s] /\ A0n CC H c v a b xs ys /\ v.Ok /\ ∀ n H', H n = none -> C8 H H' -> V1 CN H' n ⟨.plain, s, A4 v.r - 1, v.m - v.r + 1⟩ -> Q (.ref n) H'
theorem A0hj : C5 Q5 Q5 (A2 B1q) := scK
theorem Y6f {f f1 fI CN CC CB CT CW : Addr} {cw : Wy -> Addr} {fd fd1 fdI : FuncData} (D : Def K mg "nines" Q5 B1q f fd) (D_ten_to : Def K mg "ten_to" ["count"] A0q f1 fd1) (G_ten_to : sI P w K mg base 2 f1 fd1 ["count"] A2h) (C : B8c P w K mg base CC CB CT CW cw) (N : Num K mg CN) (M : C0n P w K mg base CN fI fdI) :
   sI P w K mg base 3 f fd Q5 (V3v CN CC) := by
 refine A8.up (D.F.ok A0hj (fun vs H Q E h => ?_) (fun cdv A outer s H vs Q E hr h => ?_))
 . obtain ⟨c, v, a, b, xs, ys, sg, rfl, _⟩ := h
   rfl
 obtain ⟨c, v, a, b, xs, ys, sg, rfl, hc, ok, k⟩ := h
 have hx : U1 (A1x CX0 P w K mg base Q5 "nines" (A2 B1q) f cdv A outer s H E).nox EKF := Y1
 refine ⟨_, (A6 (B0 (A6x M.m (A8.up M.g) hr N.g M.b .nil hx (A0 D5 (A0 (pv 1) (A0 (A9 J8 (C9 D_ten_to G_ten_to hr hx (A0 (D6 (pv 0) rfl) A5)) A1) (A0 (A9 J4 (A9 J8 (D6 (pv 0) rfl) (D6 (pv 0) rfl)) A1) A5))))))), ?_⟩
 obtain ⟨⟨dx, e⟩, _, _⟩ := id hc
 have r1 := ok.r1; have r2 := ok.r2
 exact ⟨_, rfl, _, rfl, c, CC, dx, _, _, rfl, e, C.c.cl, C.c.n_room, A4t _ _ _ _ _ _, v.r.toNat, (by rw [Int.toNat_of_nonneg (by omega)]; rfl), by omega, _, _, rfl, rfl, _, rfl, c, CC, dx, _, _, rfl, e, C.c.cl, C.c.n_most, C8b _ _ _ _ _ _, _, rfl, c, CC, dx, _, _, rfl, e, C.c.cl, C.c.n_room, A4t _ _ _ _ _ _, _, _, rfl, rfl, _, _, rfl, rfl, C8y k⟩
def V4k (CN CC : Addr) : Sp := fun vs H Q _ => ∃ c v a b xs ys, ∃ s : Int, vs = [.ref c, .int s] /\ A0n CC H c v a b xs ys /\ v.Ok /\ 0 <= s /\ s <= 1 /\ ∀ n H', C8 H H' -> V1 CN H' n (C8v v s) -> Q (.ref n) H'
theorem A0jd : C5 Q5 Q5 (A2 B1p) := scK
theorem Y6j {f f1 f2 CN CN' CC CB CT CW : Addr} {cw : Wy -> Addr} {fd fd1 fd2 : FuncData} (D : Def K mg "burst" Q5 B1p f fd) (D_nines : Def K mg "nines" Q5 B1q f1 fd1) (G_nines : sI P w K mg base 3 f1 fd1 Q5 (V3v CN CC)) (D_end : Def K mg "end" ["sign"] G1r f2 fd2) (G_end : sI P w K mg base 3 f2 fd2 ["sign"] (V4h K CN CN')) (C : B8c P w K mg base CC CB CT CW cw) :
   sI P w K mg base 4 f fd Q5 (V4k CN CC) := by
 refine A8.up (D.F.ok A0jd (fun vs H Q E h => ?_) (fun cdv A outer s H vs Q E hr h => ?_))
 . obtain ⟨c, v, a, b, xs, ys, sg, rfl, _⟩ := h
   rfl
 obtain ⟨c, v, a, b, xs, ys, sg, rfl, hc, ok, s0, s1, k⟩ := h
 have hx : U1 (A1x CX0 P w K mg base Q5 "burst" (A2 B1p) f cdv A outer s H E).nox EKF := Y1
 obtain ⟨fW, fdW, mW, gW, bW⟩ := C.way
 obtain ⟨fU, fdU, mU, gU, bU⟩ := C.e v.y
 refine ⟨_, (A6 (B0 (V5 (Y2 (C6j (A6d (pv 0) C.c.cl mW gW hr bW .nil hx) (C.wc v.y).cl mU gU hr bU .nil hx (A0 (pv 1) A5))) (C9 D_end G_end hr hx (A0 (pv 1) A5)) (C9 D_nines G_nines hr hx (A0 (pv 0) (A0 (pv 1) A5)))))), ?_⟩
 obtain ⟨⟨dx, e⟩, _, _⟩ := id hc
 unfold C8v at k
 refine ⟨_, rfl, c, dx, _, rfl, e, D0d _ _ _ _ _ _, c, v.r, v.y, v.l, v.m, a, b, _, _, rfl, hc, fun q dq H1 nq t1 eq => ?_⟩
 refine ⟨q, dq, _, rfl, eq, rfl, _, rfl, q, sg, rfl, fun H2 t2 => ⟨_, rfl, ?_⟩⟩
 have t3 := t1.trans t2
 cases g : v.y.toEnd sg with
 | true =>
   rw [g, if_pos rfl] at k
   exact Z5 ⟨_, rfl, _, rfl, .inl ⟨⟨sg, rfl, s0, s1⟩, fun n H' _ sm num => k n H' (t3.trans sm) num⟩⟩
 | false =>
   rw [g, if_neg Bool.false_ne_true] at k
   exact V3 ⟨_, rfl, _, rfl, c, v, a, b, xs, ys, sg, rfl, hc.same t3, ok, fun n H' _ sm num => k n H' (t3.trans sm) num⟩
def D9x : Sp := fun vs H Q _ => ∃ (pt : Int) (cut : Bool), vs = [.int pt, .bl cut] /\ ∀ l, H l = none -> Q (.ref l) (upd H l (.lst ((Y0 pt cut).map V.str)))
theorem V6z : C5 Q33 Q33 (A2 A4v) := scK
theorem J9u {f : Addr} {fd : FuncData} (D : Def K mg "signals_of_rest" Q33 A4v f fd) : sI P w K mg base 1 f fd Q33 D9x := by
 refine A8.up (D.F.ok V6z (fun vs H Q E h => ?_) (fun cdv A outer s H vs Q E hr h => ?_))
 . obtain ⟨pt, cut, rfl, _⟩ := h
   rfl
 obtain ⟨pt, cut, rfl, k⟩ := h
 refine ⟨_, (A3 (G4 (C7 C9h (pv 0) A1 (C6 _)) (A6 (B0 (U4 (A0 D5 (A0 D5 A5))))) D0) (A6 (B0 (V5 (Y2 (pv 1)) (U4 (A0 D5 A5)) (U4 A5))))), ?_⟩
 unfold Y0 at k
 refine ⟨_, rfl, rfl, _, rfl, ?_⟩
 by_cases h0 : pt = 0
 . subst h0
   rw [if_pos rfl] at k
   refine C8r rfl ⟨_, rfl, _, rfl, ?_⟩
   cases cut with
   | true => exact Z5 ⟨D7 (by decide), k⟩
   | false => exact V3 ⟨D7 (by decide), k⟩
 rw [if_neg h0] at k
 rw [decide_eq_false (fun q => h0 (by injection q) : ¬ V.int pt = V.int 0)]
 exact Z5 ⟨D7 (by decide), k⟩
def D9p (CC : Addr) : Sp := fun vs H Q _ => ∃ c v a b xs ys, ∃ L pt : Int, vs = [.ref c, .int L, .int pt] /\ A0n CC H c v a b xs ys /\ ∀ l, H l = none -> Q (.ref l) (upd H l (.lst ((A1a v.l L pt).map V.str)))
theorem V6e : C5 Q34 Q34 (A2 A4z) := scK
theorem U1c {f CC CB CT CW : Addr} {cw : Wy -> Addr} {fd : FuncData} (D : Def K mg "signals_of_lead" Q34 A4z f fd) (C : B8c P w K mg base CC CB CT CW cw) : sI P w K mg base 1 f fd Q34 (D9p CC) := by
 refine A8.up (D.F.ok V6e (fun vs H Q E h => ?_) (fun cdv A outer s H vs Q E hr h => ?_))
 . obtain ⟨c, v, a, b, xs, ys, L, pt, rfl, _⟩ := h
   rfl
 obtain ⟨c, v, a, b, xs, ys, L, pt, rfl, hc, k⟩ := h
 refine ⟨_, (A3 (G4 (C7 D9r (pv 1) (D6 (pv 0) rfl) (C6 _)) (A6 (B0 (U4 A5))) D0) (A6 (B0 (V5 (C7 G2 (pv 2) A1 (C6 _)) (U4 (A0 D5 A5)) (U4 (A0 D5 (A0 D5 A5))))))), ?_⟩
 obtain ⟨⟨dx, e⟩, _, _⟩ := id hc
 unfold A1a at k
 refine ⟨_, rfl, _, rfl, c, CC, dx, _, _, rfl, e, C.c.cl, C.c.n_least, D9t _ _ _ _ _ _, _, _, rfl, rfl, _, rfl, J1 (fun h => ?_) (fun h => ?_)⟩
 . rw [if_pos h] at k
   exact ⟨D7 (by decide), k⟩
 rw [if_neg h] at k
 refine ⟨_, rfl, rfl, _, rfl, J1 (fun h => ?_) (fun h => ?_)⟩
 . rw [if_pos (by injection h)] at k
   exact ⟨D7 (by decide), k⟩
 rw [if_neg fun q => h (congrArg V.int q)] at k
 exact ⟨D7 (by decide), k⟩
def A4u (CN CC : Addr) : Sp := fun vs H Q _ => ∃ c v a b xs ys, ∃ s i : Int, vs = [.ref c, .int s, .int i] /\ A0n CC H c v a b xs ys /\ ∀ n H', H n = none -> C8 H H' -> V1 CN H' n ⟨.plain, s, 0, J5h (A0u i (v.l - v.r + 1)) v.m⟩ -> Q (.ref n) H'
theorem Y6t : C5 Q7 Q7 (A2 A0j) := scK
theorem V5u {f fI CN CC CB CT CW : Addr} {cw : Wy -> Addr} {fd fdI : FuncData} (D : Def K mg "nought" Q7 A0j f fd) (C : B8c P w K mg base CC CB CT CW cw) (N : Num K mg CN) (M : C0n P w K mg base CN fI fdI) (O : Own mg) : sI P w K mg base 3 f fd Q7 (A4u CN CC) := by
 refine A8.up (D.F.ok Y6t (fun vs H Q E h => ?_) (fun cdv A outer s H vs Q E hr h => ?_))
 . obtain ⟨c, v, a, b, xs, ys, sg, i, rfl, _⟩ := h
   rfl
 obtain ⟨c, v, a, b, xs, ys, sg, i, rfl, hc, k⟩ := h
 have hx : U1 (A1x CX0 P w K mg base Q7 "nought" (A2 A0j) f cdv A outer s H E).nox EKF := Y1
 obtain ⟨fL, fdL, mL, gL, bL⟩ := C.low
 refine ⟨_, (A6 (B0 (A6x M.m (A8.up M.g) hr N.g M.b .nil hx (A0 D5 (A0 (pv 1) (A0 A1 (A0 (J3 (A1y rfl) (by rfl) O.min_ boot_min (A0 (J3 (Y3 rfl) (by rfl) O.max_ boot_max (A0 (pv 2) (A0 (A6d (pv 0) C.c.cl mL gL hr bL .nil hx) A5))) (A0 (D6 (pv 0) rfl) A5))) A5))))))), ?_⟩
 obtain ⟨⟨dx, e⟩, _, _⟩ := id hc
 exact ⟨_, rfl, _, rfl, _, rfl, c, dx, _, rfl, e, A6b _ _ _ _ _ _, c, v.r, v.y, v.l, v.m, a, b, _, _, rfl, hc, _, _, rfl, _, rfl, c, CC, dx, _, _, rfl, e, C.c.cl, C.c.n_most, C8b _ _ _ _ _ _, _, _, rfl, C8y k⟩
abbrev A0b : Stmt := (top 33)
abbrev A4q : Stmt := (top 46)
theorem C7z (i : Int) : ∀ (n : Nat) (f p : Int), 0 <= f -> 0 <= (C6k i n f p).1 /\ (C6k i n f p).1 <= f
 | 0, f, p, h => ⟨h, Int.le_refl _⟩
 | n + 1, f, p, h => by
   show 0 <= (if f % 10 = 0 then C6k i n (f / 10) (p + 1) else (f, p)).1 /\ (if f % 10 = 0 then C6k i n (f / 10) (p + 1) else (f, p)).1 <= f
   by_cases z : f % 10 = 0
   . rw [if_pos z]
     have := C7z i n (f / 10) (p + 1) (by omega)
     omega
   . rw [if_neg z]
     exact ⟨h, Int.le_refl _⟩
theorem Y5b {t b u1 v1 u2 v2 d : Nat} (h : t * 10 ^ u1 < 10 * (b * 10 ^ v1)) (e : u2 + v1 <= u1 + v2 + d) : t * 10 ^ u2 < 10 ^ (d + 1) * (b * 10 ^ v2) := by
 have p : 0 < 10 ^ v1 := Nat.pow_pos (by decide)
 apply Nat.lt_of_mul_lt_mul_right (a := 10 ^ v1)
 calc t * 10 ^ u2 * 10 ^ v1 = t * 10 ^ (u2 + v1) := by rw [Nat.mul_assoc, <- Nat.pow_add]
   _ <= t * 10 ^ (u1 + v2 + d) := Nat.mul_le_mul_left t (Nat.pow_le_pow_right (by decide) e)
   _ = t * 10 ^ u1 * (10 ^ v2 * 10 ^ d) := by rw [Nat.mul_assoc, <- Nat.pow_add, <- Nat.pow_add, Nat.add_assoc]
   _ < 10 * (b * 10 ^ v1) * (10 ^ v2 * 10 ^ d) := Nat.mul_lt_mul_of_pos_right h (Nat.mul_pos (Nat.pow_pos (by decide)) (Nat.pow_pos (by decide)))
   _ = 10 ^ (d + 1) * (b * 10 ^ v2) * 10 ^ v1 := by rw [Nat.pow_succ]; ac_rfl
theorem V2w {t b s1 s2 r : Int} (ht : Sz t) (hb : Sz b) (h : A0w t b s1) (hr : 1 <= r) (e : s2 <= s1 + (r - 1)) : 0 <= whI t b s2 /\ whI t b s2 < A4 r := by
 obtain ⟨tn, rfl, _, _⟩ := ht.nat
 obtain ⟨bn, rfl, b1, _⟩ := hb.nat
 have lp : 0 < (bn : Int) * A4 (-s2) := Int.mul_pos (by omega) (D4 _)
 refine ⟨Int.ediv_nonneg (Int.mul_nonneg (by omega) (Int.le_of_lt (D4 _))) (Int.le_of_lt lp), ?_⟩
 refine Int.ediv_lt_of_lt_mul lp ?_
 have a : tn * 10 ^ s1.toNat < 10 * (bn * 10 ^ (-s1).toNat) := Int.ofNat_lt.mp h.2
 have c := Y5b (u2 := s2.toNat) (v2 := (-s2).toNat) (d := (r - 1).toNat) a (by omega)
 rw [show (r - 1).toNat + 1 = r.toNat by omega] at c
 exact Int.ofNat_lt.mpr c
theorem V2s {r : Int} (h : r <= 24) : A4 r <= 10 ^ 24 := by
 unfold A4
 have : 10 ^ r.toNat <= 10 ^ 24 := Nat.pow_le_pow_right (by decide) (by omega)
 exact Int.ofNat_le.mpr this
theorem U0s {c : Cv} {s wh pt q i : Int} (ok : c.Ok) (h0 : 0 <= wh) (h1 : wh < A4 c.r) : (Z3 c s wh pt q i).1.natAbs < 2 ^ 300 := by
 have t := V2s ok.r2
 have big : ((10 ^ 24 : Nat) : Int) = 10 ^ 24 := by decide +kernel
 have lt : ∀ z : Int, 0 <= z -> z <= 10 ^ 24 -> z.natAbs < 2 ^ 300 := fun z a b => Nat.lt_of_le_of_lt (show z.natAbs <= 10 ^ 24 by omega) (by decide +kernel)
 unfold Z3
 split
 . have := C7z i (i - q).toNat wh q h0
   exact lt _ this.1 (by unfold Z2; omega)
 have hu : 0 <= upI c.y s wh pt /\ upI c.y s wh pt <= A4 c.r := by
   have e : upI c.y s wh pt = wh + 1 \/ upI c.y s wh pt = wh := by
     unfold upI
     generalize (if pt = 0 then false else c.y.goes s (wh % 10) pt) = g
     cases g with
     | true => exact .inl rfl
     | false => exact .inr rfl
   omega
 generalize upI c.y s wh pt = u at hu
 unfold B6u
 split
 . exact lt (u / 10) (by omega) (by omega)
 exact lt u (by omega) (by omega)
theorem Y7f : C5 Q26 Q26 (A2 A5j) := scK
def Cv.fin (v : Cv) (L : Int) : Int := A0u (L - v.r + 1) (v.l - v.r + 1)
def C0g (v : Cv) (s t bo n L i : Int) : Nm × List Str := C0m v s (whI t bo (n - v.fin L)) (ptI t bo (n - v.fin L)) L (v.fin L) i
def A1r (CN CC CT : Addr) (H : Hp) (c : Addr) (v : Cv) (b : Addr) (xs ys : List Str) (res : Nm × List Str) (Q : VK) (E : XK) : Prop :=
 (hit ys res.2 = none -> ∀ m a' H', Exc c H H' -> A0n CC H' c v a' b (Z1 (xs ++ res.2)) ys -> V1 CN H' m res.1 -> Q (.ref m) H') /\
 (∀ z, hit ys res.2 = some z -> ∀ a' d H', Exc c H H' -> A0n CC H' c v a' b (Z1 (xs ++ res.2)) ys -> H' d = some (.xd [("signal", .str z)]) -> E (.ref CT) (some d) H')
def A4b (CN CC CT CR : Addr) : Sp := fun vs H Q E => ∃ c v a b xs ys x, ∃ t bo n L s i : Int, vs = [.ref c, .int s, .ref x, .int i] /\ A0n CC H c v a b xs ys /\ v.Ok /\ xs.length <= 900 /\ B1z CR H x t bo n /\ Sz t /\ Sz bo /\ A0w t bo (n - L) /\ -1500 <= n - v.fin L /\ n - v.fin L <= 1500 /\ 0 <= s /\ s <= 1 /\
 A1r CN CC CT H c v b xs ys (C0g v s t bo n L i) Q E
theorem scSettled : C5 ["context", "sign", "exact", "ideal", "finest", "pair", "number", "names"] Q13 (A2 A0b) := scK
theorem V7d : ∀ z ∈ (Q53 : List Str), z ∈ B8e := by decide +kernel
theorem Y7n {pt : Int} {cut : Bool} {l L : Int} : ∀ z ∈ Y0 pt cut ++ A1a l L pt, z ∈ B8e := by
 have r : ∀ z ∈ Y0 pt cut, z ∈ B8e := by
   unfold Y0
   split
   . split
     . decide +kernel
     . decide +kernel
   . decide +kernel
 have d : ∀ z ∈ A1a l L pt, z ∈ B8e := by
   unfold A1a
   split
   . decide +kernel
   . split
     . decide +kernel
     . decide +kernel
 intro z hz
 rcases List.mem_append.mp hz with h | h
 . exact r z h
 exact d z h
theorem Y4p {pt : Int} {cut : Bool} {l L : Int} : (Y0 pt cut ++ A1a l L pt).length <= 4 := by
 have r : (Y0 pt cut).length <= 2 := by
   unfold Y0
   split
   . split <;> decide
   . decide
 have d : (A1a l L pt).length <= 2 := by
   unfold A1a
   split
   . decide
   . split <;> decide
 rw [List.length_append]
 omega
def B7r (v : Cv) (x : Nm) (L : Int) : Nm × List Str := match x.k with
 | .plain => if x.f = 0 then (⟨.plain, x.s, 0, J5h (A0u x.p (v.l - v.r + 1)) v.m⟩, []) else C0g v x.s x.f 1 x.p L x.p
 | _ => (x, [])
structure Exa where
 At : Hp -> Addr -> Prop
 L : Int
 wh : Int -> Int
 pt : Int -> Int
 okq : Int -> Prop
structure ExV (CR : Addr) (sp1 sp2 : Sp) (e : Exa) : Prop where
 same : ∀ H H' x, e.At H x -> C8 H H' -> e.At H' x
 ins : ∀ H x, e.At H x -> ∃ dx fs, H x = some (.ins CR dx fs) /\ fs.lookup ("first" : Str) = none /\ fs.lookup ("at" : Str) = none
 first : ∀ H x (Q : VK) (E : XK), e.At H x -> (∀ H', C8 H H' -> Q (.int e.L) H') -> sp1 [.ref x] H Q E
 at_ : ∀ H x q (Q : VK) (E : XK), e.At H x -> e.okq q -> (∀ p H', C8 H H' -> H p = none -> H' p = some (.tup [.int (e.wh q), .int (e.pt q)]) -> Q (.ref p) H') -> sp2 [.ref x, .int q] H Q E
structure ExM (P : Program) (w : World) (K : Frag) (mg : Str -> Option Value) (base : Heap) (CR f1 f2 : Addr) (fd1 fd2 : FuncData) (sp1 sp2 : Sp) : Prop where
 cl : Cls K CR
 m1 : Y5 K CR "first" f1
 g1 : sI P w K mg base 4 f1 fd1 ["self"] sp1
 b1 : Binds K fd1 ["self"] []
 m2 : Y5 K CR "at" f2
 g2 : sI P w K mg base 5 f2 fd2 Q15 sp2
 b2 : Binds K fd2 Q15 []
theorem A8.lift {P : Program} {w : World} {K : Frag} {mg : Str -> Option Value} {base : Heap} {CX : CXT} {j k : Nat} {f : Addr} {fd : FuncData} {ps : List Str} {sp : Sp} (h : j <= k) (F : A8 P w K mg base CX j f fd ps sp) : A8 P w K mg base CX k f fd ps sp :=
 ⟨F.len, fun A outer s H args us vs Q E hr => F.run A outer s H args us vs Q E (hr.mono h)⟩
theorem A8.weak {P : Program} {w : World} {K : Frag} {mg : Str -> Option Value} {base : Heap} {CX : CXT} {k : Nat} {f : Addr} {fd : FuncData} {ps : List Str} {sp sp' : Sp} (h : ∀ vs H Q E, sp' vs H Q E -> sp vs H Q E) (F : A8 P w K mg base CX k f fd ps sp) : A8 P w K mg base CX k f fd ps sp' :=
 ⟨fun vs H Q E z => F.len vs H Q E (h _ _ _ _ z), fun A outer s H args us vs Q E hr e0 hb r z => F.run A outer s H args us vs Q E hr e0 hb r (h _ _ _ _ z)⟩
theorem A8.both {P : Program} {w : World} {K : Frag} {mg : Str -> Option Value} {base : Heap} {CX : CXT} {k : Nat} {f : Addr} {fd : FuncData} {ps : List Str} {sp sp' : Sp} (F : A8 P w K mg base CX k f fd ps sp) (G : A8 P w K mg base CX k f fd ps sp') : A8 P w K mg base CX k f fd ps (fun vs H Q E => sp vs H Q E \/ sp' vs H Q E) :=
 ⟨fun vs H Q E z => z.elim (F.len vs H Q E) (G.len vs H Q E), fun A outer s H args us vs Q E hr e0 hb r z => z.elim (F.run A outer s H args us vs Q E hr e0 hb r) (G.run A outer s H args us vs Q E hr e0 hb r)⟩
def D9q (CC CR : Addr) (sp1 sp2 : Sp) : Sp := fun vs H Q _ => ∃ c v a b xs ys x, ∃ ex : Exa, vs = [.ref c, .ref x] /\ A0n CC H c v a b xs ys /\ ExV CR sp1 sp2 ex /\ ex.At H x /\ ∀ H', C8 H H' -> Q (.int (A0u (ex.L - v.r + 1) (v.l - v.r + 1))) H'
theorem C8s {f CC CB CT CW CR CE g1 g2 : Addr} {cw : Wy -> Addr} {fd gd1 gd2 : FuncData} (D : Def K mg "finest_power" Q26 A5j f fd) (C : B8c P w K mg base CC CB CT CW cw) {sp1 sp2 : Sp} (RM : ExM P w K mg base CR g1 g2 gd1 gd2 sp1 sp2) (O : Own mg) : sI P w K mg base 5 f fd Q26 (D9q CC CR sp1 sp2) := by
 refine A8.up (D.F.ok Y7f (fun vs H Q E h => ?_) (fun cdv A outer s H vs Q E hr h => ?_))
 . obtain ⟨c, v, a, b, xs, ys, x, ex, rfl, _⟩ := h
   rfl
 obtain ⟨c, v, a, b, xs, ys, x, ex, rfl, hc, ev, ra, k⟩ := h
 have hx : U1 (A1x CX0 P w K mg base Q26 "finest_power" (A2 A5j) f cdv A outer s H E).nox EKF := Y1
 obtain ⟨fL, fdL, mL, gL, bL⟩ := C.low
 refine ⟨_, (A6 (B0 (J3 (Y3 rfl) (by rfl) O.max_ boot_max (A0 (A9 J4 (A9 J8 (A6d (pv 1) RM.cl RM.m1 RM.g1 hr RM.b1 .nil hx) (D6 (pv 0) rfl)) A1) (A0 (A6d (pv 0) C.c.cl mL gL hr bL .nil hx) A5))))), ?_⟩
 obtain ⟨dr, fs, er, nf, _⟩ := ev.ins _ _ ra
 refine ⟨_, rfl, x, dr, _, rfl, er, nf, ev.first _ _ _ _ ra fun H1 s1 => ?_⟩
 have hc1 := hc.same s1
 obtain ⟨⟨dx, e⟩, _, _⟩ := id hc1
 exact ⟨_, rfl, c, CC, dx, _, _, rfl, e, C.c.cl, C.c.n_room, A4t _ _ _ _ _ _, _, _, rfl, rfl, _, _, rfl, rfl, _, rfl, c, dx, _, rfl, e, A6b _ _ _ _ _ _, c, v.r, v.y, v.l, v.m, a, b, _, _, rfl, hc1, _, _, rfl, k H1 s1⟩
def A7y (CN CC CT CR : Addr) (sp1 sp2 : Sp) : Sp := fun vs H Q E => ∃ c v a b xs ys x, ∃ (ex : Exa) (s i : Int), vs = [.ref c, .int s, .ref x, .int i] /\ A0n CC H c v a b xs ys /\ v.Ok /\ xs.length <= 900 /\ ExV CR sp1 sp2 ex /\ ex.At H x /\ ex.okq (v.fin ex.L) /\ 0 <= ex.wh (v.fin ex.L) /\ ex.wh (v.fin ex.L) < A4 v.r /\ 0 <= s /\ s <= 1 /\
 A1r CN CC CT H c v b xs ys (C0m v s (ex.wh (v.fin ex.L)) (ex.pt (v.fin ex.L)) ex.L (v.fin ex.L) i) Q E
theorem C6s {f f1 f2 f3 f4 f5 f6 f7 f8 CN CC CB CT CW CR CE g1 g2 : Addr} {cw : Wy -> Addr} {sp1 sp2 : Sp} {fd fd1 fd2 fd3 fd4 fd5 fd6 fd7 fd8 gd1 gd2 : FuncData} (D : Def K mg "settled" Q13 A0b f fd)
   (D_finest_power : Def K mg "finest_power" Q26 A5j f1 fd1) (G_finest_power : sI P w K mg base 5 f1 fd1 Q26 (D9q CC CR sp1 sp2)) (D_nearest_to : Def K mg "nearest_to" Q23 A2r f2 fd2) (G_nearest_to : sI P w K mg base 3 f2 fd2 Q23 (D8u CN))
   (D_neighbour : Def K mg "neighbour" Q24 Z7 f3 fd3) (G_neighbour : sI P w K mg base 3 f3 fd3 Q24 (C6t CC)) (D_within_room : Def K mg "within_room" Q25 A5m f4 fd4) (G_within_room : sI P w K mg base 3 f4 fd4 Q25 (J4t CN CC))
   (D_is_beyond : Def K mg "is_beyond" Q12 A5n f5 fd5) (G_is_beyond : sI P w K mg base 2 f5 fd5 Q12 (J4h CN CC)) (D_burst : Def K mg "burst" Q5 B1p f6 fd6) (G_burst : sI P w K mg base 4 f6 fd6 Q5 (V4k CN CC))
   (D_signals_of_rest : Def K mg "signals_of_rest" Q33 A4v f7 fd7) (G_signals_of_rest : sI P w K mg base 1 f7 fd7 Q33 D9x) (D_signals_of_lead : Def K mg "signals_of_lead" Q34 A4z f8 fd8) (G_signals_of_lead : sI P w K mg base 1 f8 fd8 Q34 (D9p CC))
   (C : B8c P w K mg base CC CB CT CW cw) (RM : ExM P w K mg base CR g1 g2 gd1 gd2 sp1 sp2) (N : Num K mg CN) : sI P w K mg base 6 f fd Q13 (A7y CN CC CT CR sp1 sp2) := by
 refine D.F.okE scSettled (fun vs H Q E h => ?_) (fun X cdv A outer s H vs Q E hX hr hx h => ?_)
 . obtain ⟨c, v, a, b, xs, ys, x, ex, sg, i, rfl, _⟩ := h
   rfl
 subst hX
 obtain ⟨c, v, a, b, xs, ys, x, ex, sg, i, rfl, hc, ok, lx, ev, ra, q0, wr0, wr1, s0, s1, k⟩ := h
 obtain ⟨fR, fdR, mR, gR, bR⟩ := C.raised
 refine ⟨_, (A3 (B5 (D3 (i := 4) scSettled.nd rfl (Or.inl rfl) (C9 D_finest_power G_finest_power hr hx (A0 (pv 0) (A0 (pv 2) A5))))) (A3 (B5 (D3 (i := 5) scSettled.nd rfl (Or.inl rfl) (C6j (pv 2) RM.cl RM.m2 RM.g2 hr RM.b2 .nil hx (A0 (pv 4) A5)))) (A3 (B5 (G4 (C7 G2 (D9 G3 (pv 5) A1 (fun _ _ => rfl)) A1 (C6 _)) (A6 (D3 (i := 6) scSettled.nd rfl (Or.inl rfl) (C9 D_nearest_to G_nearest_to hr hx (A0 (pv 3) (A0 (pv 1) (A0 (D9 G3 (pv 5) A1 (fun _ _ => rfl)) (A0 (pv 4) A5))))))) (A6 (D3 (i := 6) scSettled.nd rfl (Or.inl rfl) (C9 D_within_room G_within_room hr hx (A0 (pv 0) (A0 (pv 1) (A0 (C9 D_neighbour G_neighbour hr hx (A0 (pv 0) (A0 (pv 1) (A0 (pv 5) A5)))) (A0 (pv 4) A5))))))))) (A3 (B5 (G4 (Y2 (C9 D_is_beyond G_is_beyond hr hx (A0 (pv 0) (A0 (pv 6) A5)))) (A3 (V7 (C6j (pv 0) C.c.cl mR gR hr bR .nil hx (A0 (U4 (A0 D5 (A0 D5 (A0 D5 A5)))) A5))) (A6 (B0 (C9 D_burst G_burst hr hx (A0 (pv 0) (A0 (pv 1) A5)))))) D0)) (A3 (B5 (D3 (i := 7) scSettled.nd rfl (Or.inl rfl) (C9 D_signals_of_rest G_signals_of_rest hr hx (A0 (D9 G3 (pv 5) A1 (fun _ _ => rfl)) (A0 (G9 A7b (D6 (pv 6) rfl) (pv 3) (C6 _)) A5))))) (A3 (B5 (V7 (C6j (pv 0) C.c.cl mR gR hr bR .nil hx (A0 (A9 G2g (pv 7) (C9 D_signals_of_lead G_signals_of_lead hr hx (A0 (pv 0) (A0 (A6d (pv 2) RM.cl RM.m1 RM.g1 hr RM.b1 .nil hx) (A0 (D9 G3 (pv 5) A1 (fun _ _ => rfl)) A5))))) A5)))) (A6 (B0 (pv 6))))))))), ?_⟩
 have wr := And.intro wr0 wr1
 unfold C0m at k
 refine ⟨fun σ' H' => C8 H H' /\ σ' = [sr c, si sg, sr x, si i, si (v.fin ex.L), none, none, none], ?_, ?_⟩
 . exact ⟨_, rfl, _, rfl, c, v, a, b, xs, ys, x, ex, rfl, hc, ev, ra, fun H' s' => ⟨s', rfl⟩⟩
 rintro σ' H1 ⟨t1, rfl⟩
 have hc1 := hc.same t1
 have ra1 := ev.same _ _ _ ra t1
 generalize v.fin ex.L = q at *
 generalize hwh : ex.wh q = wh at *
 generalize hpt : ex.pt q = pt at *
 refine ⟨fun σ' H' => ∃ p, C8 H1 H' /\ H' p = some (.tup [.int wh, .int pt]) /\ σ' = [sr c, si sg, sr x, si i, si q, sr p, none, none], ?_, ?_⟩
 . obtain ⟨dr, fs, er, _, na⟩ := ev.ins _ _ ra1
   refine ⟨_, rfl, x, dr, _, rfl, er, na, _, rfl, ev.at_ _ _ _ _ _ ra1 q0 fun p H' s' np ep => ⟨p, s', ?_, rfl⟩⟩
   rw [hwh, hpt] at ep
   exact ep
 rintro σ' H2 ⟨p, t2, hp, rfl⟩
 have hc2 := hc1.same t2
 have sm := U0s (s := sg) (pt := pt) (q := q) (i := i) ok wr.1 wr.2
 refine ⟨fun σ' H' => ∃ m, C8 H2 H' /\ H2 m = none /\ V1 CN H' m ⟨.plain, sg, (Z3 v sg wh pt q i).1, (Z3 v sg wh pt q i).2⟩ /\ σ' = [sr c, si sg, sr x, si i, si q, sr p, sr m, none], ?_, ?_⟩
 . refine ⟨_, rfl, p, _, _, _, rfl, rfl, SqT.of hp, B7 (j := 1) rfl, rfl, _, rfl, J1 (fun h => ?_) (fun h => ?_)⟩
   . have h : pt = 0 := by injection h
     refine ⟨_, rfl, _, rfl, _, rfl, p, _, _, _, rfl, rfl, SqT.of hp, B7 (j := 0) rfl, _, rfl, i, sg, wh, q, rfl, fun m H' nm s' num => ⟨m, s', nm, ?_, rfl⟩⟩
     unfold Z3
     rw [if_pos h]
     exact num
   . have h : ¬ pt = 0 := fun z => h (congrArg V.int z)
     refine ⟨_, rfl, _, rfl, _, rfl, _, rfl, _, rfl, c, v, a, b, xs, ys, p, sg, wh, pt, rfl, hc2, hp, fun H3 s3 => ?_⟩
     refine ⟨_, rfl, c, v, a, b, xs, ys, sg, _, q, rfl, hc2.same s3, ok, fun m H' nm s' num => ⟨m, s3.trans s', s3.free nm, ?_, rfl⟩⟩
     unfold Z3
     rw [if_neg h]
     exact num
 rintro σ' H3 ⟨m, t3, nm, num, rfl⟩
 have hc3 := hc2.same t3
 have tA := (t1.trans t2).trans t3
 have nmc : m ≠ c := fun z => by
   obtain ⟨⟨dx, e⟩, _, _⟩ := hc2
   rw [z, e] at nm
   cases nm
 obtain ⟨⟨dx, e3⟩, _, _⟩ := id hc3
 generalize hf : (Z3 v sg wh pt q i).1 = fg at *
 generalize hg : (Z3 v sg wh pt q i).2 = pw at *
 refine ⟨fun σ' H' => H' = H3 /\ A3m v.m fg pw = false /\ σ' = [sr c, si sg, sr x, si i, si q, sr p, sr m, none], ?_, ?_⟩
 . refine ⟨_, rfl, _, rfl, c, v, a, b, xs, ys, m, _, rfl, hc3, num, sm, _, rfl, ?_⟩
   cases e : A3m v.m fg pw with
   | false => exact V3 ⟨rfl, rfl, rfl⟩
   | true =>
     rw [e, if_pos rfl] at k
     refine Z5 ⟨_, rfl, c, dx, _, rfl, e3, A2k _ _ _ _ _ _, D7 (by decide), fun l nl => ?_⟩
     have u := C8.upd (o := .lst [.str "burst", .str "off", .str "cut"]) nl
     refine ⟨c, v.r, v.y, v.l, v.m, a, b, xs, ys, .ref l, rfl, hc3.same u, by omega, .inl ⟨l, Q53, rfl, A7, by decide, V7d, fun hn a' H4 x4 na ct => ?_, fun z hz a' d H4 x4 na ct nd ed => ?_⟩⟩
     . refine ⟨_, rfl, _, rfl, c, v, a', b, _, ys, sg, rfl, ct, ok, s0, s1, fun m' H5 s5 num5 => k.1 hn m' a' H5 (((Exc.of (tA.trans u)).trans x4).trans (.of s5)) (A0n.same ct s5) num5⟩
     . exact k.2 z hz a' d H4 ((Exc.of (tA.trans u)).trans x4) ct ed
 rintro σ' H4 ⟨rfl, e, rfl⟩
 rw [e, if_neg Bool.false_ne_true] at k
 refine ⟨fun σ' H' => ∃ l, C8 H4 H' /\ H' l = some (.lst ((Y0 pt (decide (pw > i))).map V.str)) /\ σ' = [sr c, si sg, sr x, si i, si q, sr p, sr m, sr l], ?_, ?_⟩
 . obtain ⟨dn, en⟩ := id num
   exact ⟨_, rfl, p, _, _, _, rfl, rfl, SqT.of (t3 _ _ hp), B7 (j := 1) rfl, _, rfl, m, CN, dn, _, _, rfl, en, N.cl, N.n4, A6u _ _ _ _, _, rfl, _, _, rfl, rfl, pt, _, rfl, fun l nl => ⟨l, C8.upd nl, A7, rfl⟩⟩
 rintro σ' H5 ⟨l, t5, hl, rfl⟩
 refine ⟨fun σ' H' => hit ys (Y0 pt (decide (pw > i)) ++ A1a v.l ex.L pt) = none /\ ∃ a', Exc c H H' /\ A0n CC H' c v a' b (Z1 (xs ++ (Y0 pt (decide (pw > i)) ++ A1a v.l ex.L pt))) ys /\ V1 CN H' m ⟨.plain, sg, fg, pw⟩ /\ σ' = [sr c, si sg, sr x, si i, si q, sr p, sr m, sr l], ?_, ?_⟩
 . have ra5 := ev.same _ _ _ ra1 ((t2.trans t3).trans t5)
   obtain ⟨dr, fs, er, nf, _⟩ := ev.ins _ _ ra5
   have hc5 := hc3.same t5
   refine ⟨_, rfl, c, dx, _, rfl, t5 _ _ e3, A2k _ _ _ _ _ _, _, rfl, _, rfl, _, rfl, x, dr, _, rfl, er, nf, ev.first _ _ _ _ ra5 fun H6 t6 => ?_⟩
   generalize ex.L = f at *
   refine ⟨_, rfl, p, _, _, _, rfl, rfl, SqT.of ((t5.trans t6) _ _ (t3 _ _ hp)), B7 (j := 1) rfl, c, v, a, b, xs, ys, f, pt, rfl, hc5.same t6, fun l2 nl2 => ?_⟩
   have u2 := C8.upd (o := .lst ((A1a v.l f pt).map V.str)) nl2
   have rl := Y4p (pt := pt) (cut := decide (pw > i)) (l := v.l) (L := f)
   rw [List.length_append] at rl
   refine ⟨l, l2, _, _, rfl, rfl, (t6.trans u2) _ _ hl, A7, D7 (by rw [List.length_map, List.length_map]; omega), fun l3 nl3 => ?_⟩
   have u3 := C8.upd (o := .lst ((Y0 pt (decide (pw > i))).map V.str ++ (A1a v.l f pt).map V.str)) nl3
   have tB := (t6.trans u2).trans u3
   have num7 := (num.same t5).same tB
   obtain ⟨dn7, en7⟩ := id num7
   have keep : ∀ {H' : Hp}, Exc c _ H' -> V1 CN H' m ⟨.plain, sg, fg, pw⟩ := fun x7 => ⟨dn7, x7 _ _ en7 nmc⟩
   refine ⟨c, v.r, v.y, v.l, v.m, a, b, xs, ys, .ref l3, rfl, (hc5.same tB), by omega, .inl ⟨l3, Y0 pt (decide (pw > i)) ++ A1a v.l f pt, rfl, by rw [A7, List.map_append], by rw [List.length_append]; omega, Y7n, fun hn a' H8 x8 na ct => ?_, fun z hz a' d H8 x8 na ct nd ed => ?_⟩⟩
   . exact ⟨hn, a', (Exc.of (tA.trans (t5.trans tB))).trans x8, ct, keep x8, rfl⟩
   . exact k.2 z hz a' d H8 ((Exc.of (tA.trans (t5.trans tB))).trans x8) ct ed
 rintro σ' H6 ⟨hn, a', x6, ct, num6, rfl⟩
 exact ⟨_, rfl, k.1 hn m a' H6 x6 ct num6⟩
def ratE (CR : Addr) (t bo n L : Int) : Exa := ⟨fun H x => B1z CR H x t bo n, L, fun q => whI t bo (n - q), fun q => ptI t bo (n - q), fun q => -1500 <= n - q /\ n - q <= 1500⟩
theorem ratV {CR : Addr} {t bo n L : Int} (ht : Sz t) (hb : Sz bo) (hL : A0w t bo (n - L)) : ExV CR (A7c CR) (C9q CR) (ratE CR t bo n L) where
 same := fun _ _ _ h s => B1z.same h s
 ins := fun _ _ h => by
   obtain ⟨dx, e⟩ := h
   exact ⟨dx, _, e, G2d _ _ _, D9s _ _ _⟩
 first := fun H x Q E h k => ⟨x, t, bo, n, rfl, h, ht, hb, fun f H' s ld => by
   have ef : f = L := by
     have := A0ge (show 0 < bo by have := hb.1; omega) ld hL
     omega
   rw [ef]
   exact k H' s⟩
 at_ := fun H x q Q E h ok k => ⟨x, t, bo, n, q, rfl, h, ht, hb, ok.1, ok.2, fun p H' s np ep => k p H' s np ep⟩
theorem ratM {CR CE g1 g2 : Addr} {gd1 gd2 : FuncData} (RM : RatM P w K mg base CR g1 g2 gd1 gd2) (R : G2r K mg CR CE) : ExM P w K mg base CR g1 g2 gd1 gd2 (A7c CR) (C9q CR) := ⟨R.cl, RM.m1, RM.g1, RM.b1, RM.m2, A8.lift (by decide) RM.g2, RM.b2⟩
theorem J4z {CN CC CT CR : Addr} {vs : List V} {H : Hp} {Q : VK} {E : XK} (h : A4b CN CC CT CR vs H Q E) : A7y CN CC CT CR (A7c CR) (C9q CR) vs H Q E := by
 obtain ⟨c, v, a, b, xs, ys, x, t, bo, n, L, sg, i, rfl, hc, ok, lx, ra, ht, hb, hL, q0, q1, s0, s1, k⟩ := h
 have wr := V2w (s2 := n - v.fin L) ht hb hL ok.r1 (by
   unfold Cv.fin A0u
   split <;> omega)
 exact ⟨c, v, a, b, xs, ys, x, ratE CR t bo n L, sg, i, rfl, hc, ok, lx, ratV ht hb hL, ra, ⟨q0, q1⟩, wr.1, wr.2, s0, s1, k⟩
def A6q (t s : Int) : Prop := A4 (-s) <= t * A4 s /\ t * A4 s < 100 * A4 (-s)
def A1t (t s wh : Int) : Prop := 0 <= wh /\ wh * wh * A4 (-s) <= t * A4 s /\ t * A4 s < (wh + 1) * (wh + 1) * A4 (-s)
def C7e (t s wh : Int) : Int := if wh * wh * A4 (-s) = t * A4 s then 0 else 1 + (if decide ((2 * wh + 1) * (2 * wh + 1) * A4 (-s) <= 4 * (t * A4 s)) = true then 1 else 0) + (if decide ((2 * wh + 1) * (2 * wh + 1) * A4 (-s) < 4 * (t * A4 s)) = true then 1 else 0)
structure Muls (t s wh : Int) : Prop where
 o1 : IntMulOk t (A4 s)
 o2 : IntMulOk wh wh
 o3 : IntMulOk (wh * wh) (A4 (-s))
 o4 : IntMulOk (wh + 1) (wh + 1)
 o5 : IntMulOk ((wh + 1) * (wh + 1)) (A4 (-s))
 o6 : IntMulOk (2 * wh + 1) (2 * wh + 1)
 o7 : IntMulOk ((2 * wh + 1) * (2 * wh + 1)) (A4 (-s))
theorem Y4r {s : Int} (h : s <= 0) : A4 s = 1 := by unfold A4; rw [show s.toNat = 0 by omega]; rfl
theorem J4d {t s r : Int} (ht : 0 < t) (h1 : A6q t s) (h2 : A6q t r) (hp : (r - s) % 2 = 0) : r <= s := by
 apply Classical.byContradiction
 intro h
 have hs : s <= r := by omega
 have c := A0e hs
 have g : A4 2 <= A4 (r - s) := V8 (by omega)
 have e100 : A4 2 = 100 := by decide +kernel
 rw [e100] at g
 have p1 := D4 (-s)
 have p2 := D4 (-r)
 have e : t * A4 r * A4 (-s) = t * A4 s * A4 (-r) * A4 (r - s) := by
   calc t * A4 r * A4 (-s) = t * (A4 r * A4 (-s)) := by ac_rfl
     _ = t * (A4 s * A4 (-r) * A4 (r - s)) := by rw [c]
     _ = t * A4 s * A4 (-r) * A4 (r - s) := by ac_rfl
 have a1 : t * A4 r * A4 (-s) < 100 * A4 (-r) * A4 (-s) := Int.mul_lt_mul_of_pos_right h2.2 p1
 have hp : 0 < t * A4 s := Int.mul_pos ht (D4 s)
 have a2 : t * A4 s * A4 (-r) * 100 <= t * A4 s * A4 (-r) * A4 (r - s) := Int.mul_le_mul_of_nonneg_left g (Int.le_of_lt (Int.mul_pos hp p2))
 have a3 : A4 (-s) * A4 (-r) <= t * A4 s * A4 (-r) := Int.mul_le_mul_of_nonneg_right h1.1 (Int.le_of_lt p2)
 have e2 : 100 * A4 (-r) * A4 (-s) = A4 (-s) * A4 (-r) * 100 := by ac_rfl
 have a4 : A4 (-s) * A4 (-r) * 100 <= t * A4 s * A4 (-r) * 100 := Int.mul_le_mul_of_nonneg_right a3 (by decide)
 rw [e, e2] at a1
 exact absurd (Int.lt_of_lt_of_le a1 (Int.le_trans a4 a2)) (Int.lt_irrefl _)
theorem Y5x {t n f g : Int} (ht : 0 < t) (h1 : A6q t (n - 2 * f)) (h2 : A6q t (n - 2 * g)) : f = g := by
 have a := J4d ht h1 h2 (by omega)
 have b := J4d ht h2 h1 (by omega)
 omega
def SzQ (t : Int) : Prop := 1 <= t /\ t < 10 ^ 61
theorem C6q {t s : Int} (ht : SzQ t) (h : A6q t s) : -61 <= s /\ s <= 1 := by
 refine ⟨?_, ?_⟩
 . apply Classical.byContradiction
   intro hs
   have g : A4 61 <= A4 (-s) := V8 (by omega)
   have e61 : A4 61 = 10 ^ 61 := by decide +kernel
   have a := h.1
   rw [Y4r (by omega : s <= 0), Int.mul_one] at a
   rw [e61] at g
   have := ht.2
   omega
 apply Classical.byContradiction
 intro hs
 have g : A4 2 <= A4 s := V8 (by omega)
 have e2 : A4 2 = 100 := by decide +kernel
 have a := h.2
 rw [Y4r (by omega : -s <= 0)] at a
 have : 1 * A4 s <= t * A4 s := Int.mul_le_mul_of_nonneg_right ht.1 (Int.le_of_lt (D4 _))
 omega
theorem A4w {s : Int} (h : s <= 200) : (A4 s).natAbs < 2 ^ 700 := by
 unfold A4
 rw [Int.natAbs_natCast]
 exact Nat.lt_of_le_of_lt (Nat.pow_le_pow_right (by decide) (show s.toNat <= 200 by omega)) (by decide +kernel)
theorem SzQ.small {t : Int} (h : SzQ t) : t.natAbs < 2 ^ 203 := by
 have e : (10 ^ 61 : Int).natAbs < 2 ^ 203 := by decide +kernel
 have := h.1; have := h.2
 omega
theorem C8d {k : Nat} (h : k <= 1000) : (2 : Nat) ^ k <= 2 ^ 1000 := Nat.pow_le_pow_right (by decide) h
theorem C9w {t s : Int} (ht : SzQ t) (h : s <= 200) : (t * A4 s).natAbs < 2 ^ 903 := by
 rw [Int.natAbs_mul]
 exact Nat.lt_of_lt_of_le (Nat.mul_lt_mul'' ht.small (A4w h)) (Nat.le_of_eq (Nat.pow_add 2 203 700).symm)
theorem U0t {t s wh : Int} (ht : SzQ t) (h2 : s <= 200) (r : A1t t s wh) : wh.natAbs < 2 ^ 452 := by
 obtain ⟨w0, w1, _⟩ := r
 obtain ⟨n, rfl⟩ := Int.eq_ofNat_of_zero_le w0
 rw [Int.natAbs_natCast]
 have hh := C9w ht h2
 have l1 : (1 : Int) <= A4 (-s) := D4 (-s)
 have a : (n : Int) * n * 1 <= (n : Int) * n * A4 (-s) := Int.mul_le_mul_of_nonneg_left l1 (Int.mul_nonneg w0 w0)
 have b : (n : Int) * n <= t * A4 s := by omega
 have c : n * n < 2 ^ 903 := by
   have : ((n * n : Nat) : Int) <= t * A4 s := b
   omega
 apply Classical.byContradiction
 intro z
 have : 2 ^ 452 * 2 ^ 452 <= n * n := Nat.mul_le_mul (by omega) (by omega)
 rw [<- Nat.pow_add] at this
 have q : (2 : Nat) ^ 903 <= 2 ^ (452 + 452) := Nat.pow_le_pow_right (by decide) (by decide)
 exact absurd (Nat.lt_of_lt_of_le c (Nat.le_trans q this)) (Nat.lt_irrefl _)
theorem Y6k {a : Int} {k : Nat} (h : a.natAbs < 2 ^ k) : (a * a).natAbs < 2 ^ (k + k) := by
 rw [Int.natAbs_mul, Nat.pow_add]
 exact Nat.mul_lt_mul'' h h
theorem V3a {t s wh : Int} (ht : SzQ t) (h1 : -200 <= s) (h2 : s <= 200) (r : A1t t s wh) : Muls t s wh := by
 have rs := U0t ht h2 r
 have w0 := r.1
 have l : (A4 (-s)).natAbs < 2 ^ 1000 := Nat.lt_of_lt_of_le (A4w (by omega)) (C8d (by decide))
 have d : (2 : Nat) ^ 454 = 4 * 2 ^ 452 := by rw [show 454 = 2 + 452 from rfl, Nat.pow_add]
 have e : ∀ {a : Int}, a.natAbs < 2 ^ 454 -> a.natAbs < 2 ^ 1000 := fun h => Nat.lt_of_lt_of_le h (C8d (by decide))
 have e2 : ∀ {a : Int}, a.natAbs < 2 ^ 454 -> (a * a).natAbs < 2 ^ 1000 := fun h => Nat.lt_of_lt_of_le (Y6k h) (C8d (by decide))
 have b1 : wh.natAbs < 2 ^ 454 := by omega
 have b2 : (wh + 1).natAbs < 2 ^ 454 := by omega
 have b3 : (2 * wh + 1).natAbs < 2 ^ 454 := by omega
 exact ⟨Y9 (Nat.lt_of_lt_of_le ht.small (C8d (by decide))) (Nat.lt_of_lt_of_le (A4w h2) (C8d (by decide))), Y9 (e b1) (e b1), Y9 (e2 b1) l, Y9 (e b2) (e b2), Y9 (e2 b2) l, Y9 (e b3) (e b3), Y9 (e2 b3) l⟩
theorem V3r {t s a b : Int} (ha : A1t t s a) (hb : A1t t s b) : b <= a := by
 apply Classical.byContradiction
 intro h
 have p := D4 (-s)
 have q : (a + 1) * (a + 1) <= b * b := Int.mul_le_mul (by omega) (by omega) (by have := ha.1; omega) hb.1
 have q2 : (a + 1) * (a + 1) * A4 (-s) <= b * b * A4 (-s) := Int.mul_le_mul_of_nonneg_right q (Int.le_of_lt p)
 have := ha.2.2
 have := hb.2.1
 omega
theorem A0hq {t s a b : Int} (ha : A1t t s a) (hb : A1t t s b) : a = b := Int.le_antisymm (V3r hb ha) (V3r ha hb)
abbrev A7p : Stmt := (J2 (top 7) 0)
structure V7z (K : Frag) (mg : Str -> Option Value) (CR CE : Addr) : Prop where
 g : mg "Root" = some (.ref CR)
 ge : mg "Exact" = some (.ref CE)
 cl : Cls K CR
 n_top : Y6 K CR "top"
 n_power : Y6 K CR "power"
 ca : findIn K (.ref CR) "__class__" = some (some (.builtin "object.__class__"))
 sn : specialIn K (.builtin "object.__class__") "__get__" = some (some (.builtin "getset_descriptor.__get__"))
 tk : takesIn K (.builtin "object.__class__") = some true
 ob : mroIn K CR (.type "object") = some true
 up : kitOne K (.ref CR) (.ref CE) = some true
def J4k (t n : V) : List (Str × V) := V6 "power" n (V6 "top" t [])
theorem G1f (t n : V) (x : Str) : (J4k t n).lookup x = if x = "power" then some n else if x = "top" then some t else none := by
 unfold J4k
 rw [G8, G8]
 rfl
theorem V2x (t n : V) : (J4k t n).lookup ("top" : Str) = some t := by rw [G1f, if_neg (by decide +kernel), if_pos rfl]
theorem D9b (t n : V) : (J4k t n).lookup ("power" : Str) = some n := by rw [G1f, if_pos rfl]
theorem G1z (t n : V) : (J4k t n).lookup ("first" : Str) = none := by rw [G1f, if_neg (by decide +kernel), if_neg (by decide +kernel)]
theorem V7r (t n : V) : (J4k t n).lookup ("at" : Str) = none := by rw [G1f, if_neg (by decide +kernel), if_neg (by decide +kernel)]
def C6u (CR : Addr) (H : Hp) (x : Addr) (t n : Int) : Prop := ∃ dx, H x = some (.ins CR dx (J4k (.int t) (.int n)))
theorem C6u.same {CR : Addr} {H H' : Hp} {x : Addr} {t n : Int} (h : C6u CR H x t n) (s : C8 H H') : C6u CR H' x t n := by
 obtain ⟨dx, e⟩ := h
 exact ⟨dx, s _ _ e⟩
def G2k (CR : Addr) : Sp := fun vs H Q _ => ∃ (p dx : Addr) (t n : V), vs = [.ref p, t, n] /\ H p = some (.ins CR dx []) /\ ∀ H', H' p = some (.ins CR dx (J4k t n)) -> Exc p H H' -> Q .non H'
theorem A0jf : C5 Q27 Q27 (A2 A7p) := scK
theorem Y5y {f CR CE : Addr} {fd : FuncData} {dV : Value} (F : V8a K "__init__" "Root.__init__" A7p dV f fd) (R : V7z K mg CR CE) : sI P w K mg base 1 f fd Q27 (G2k CR) := by
 refine F.okE A0jf (fun vs H Q E h => ?_) (fun X cdv A outer s H vs Q E hX hr hx h => ?_)
 . obtain ⟨p, dx, a, c, rfl, _⟩ := h
   rfl
 subst hX
 obtain ⟨p, dx, a, c, rfl, hp, k⟩ := h
 refine ⟨_, (A3 (Z6 (pv 0) (pv 1) rfl) (A6 (Z6 (pv 0) (pv 2) rfl))), ?_⟩
 have l : ∀ (fs : List (Str × V)) (f : Str) (v : V) (n : Nat), fs.length <= n -> (V6 f v fs).length <= n + 1 := fun fs f v n h => Nat.le_trans (A0x f v fs) (Nat.succ_le_succ h)
 refine ⟨_, rfl, _, rfl, p, CR, dx, [], rfl, hp, R.cl, R.n_top, (by show 0 < 1000; decide), ?_⟩
 refine ⟨_, rfl, _, rfl, p, CR, dx, _, rfl, A7, R.cl, R.n_power, Nat.lt_of_le_of_lt (l _ _ _ 0 (Nat.le_refl _)) (by decide), ?_⟩
 refine k _ A7 fun b o e hb => ?_
 rw [G6 hb, G6 hb]
 exact e
def B1b (CR : Addr) : Sp := fun vs H Q _ => ∃ x t n, vs = [.ref x] /\ C6u CR H x t n /\ SzQ t /\ -900 <= n /\ n <= 900 /\ ∀ f H', C8 H H' -> A6q t (n - 2 * f) -> Q (.int f) H'
def J4s (CR : Addr) : Sp := fun vs H Q _ => ∃ x t n p, vs = [.ref x, .int p] /\ C6u CR H x t n /\ SzQ t /\ -200 <= n - 2 * p /\ n - 2 * p <= 200 /\
 ∀ wh q H', C8 H H' -> H q = none -> A1t t (n - 2 * p) wh -> H' q = some (.tup [.int wh, .int (C7e t (n - 2 * p) wh)]) -> Q (.ref q) H'
structure A0qz (P : Program) (w : World) (K : Frag) (mg : Str -> Option Value) (base : Heap) (CR fI : Addr) (fdI : FuncData) (d0 : Value) (gP : List Value -> List Value -> List Value) (vP : List V -> List V -> List V) : Prop where
 m : Mk K CR fI
 g : sI P w K mg base 1 fI fdI Q27 (G2k CR)
 b3 : Binds K fdI Q27 []
 b2 : Binds K fdI Q27 [d0]
 r0 : V0 (.int 0) d0
 kP : Y8k K fdI Q27 ["power"] gP vP
 eP : ∀ x a c, vP [x, a] [c] = [x, a, c]
structure RooM (P : Program) (w : World) (K : Frag) (mg : Str -> Option Value) (base : Heap) (CR f1 f2 : Addr) (fd1 fd2 : FuncData) : Prop where
 m1 : Y5 K CR "first" f1
 g1 : sI P w K mg base 4 f1 fd1 ["self"] (B1b CR)
 b1 : Binds K fd1 ["self"] []
 m2 : Y5 K CR "at" f2
 g2 : sI P w K mg base 5 f2 fd2 Q15 (J4s CR)
 b2 : Binds K fd2 Q15 []
theorem A0yd {CR x dx : Addr} {H : Hp} {Q : VK} {E : XK} {t n : Int} (n1 : H x = none) (n2 : H dx = none) (ne : dx ≠ x) (k : ∀ H', C8 H H' -> C6u CR H' x t n -> Q .non H') :
   G2k CR [.ref x, .int t, .int n] (upd (upd H dx (.own x)) x (.ins CR dx [])) Q E :=
 ⟨x, dx, _, _, rfl, A7, fun H' e s => k H' (fun c o z => s c o (by rw [G6 (G7 z n1), G6 (G7 z n2)]; exact z) (G7 z n1)) ⟨dx, e⟩⟩
abbrev B1x : Stmt := (top 10)
theorem Y5h {n g : Nat} (hg : 1 <= g) : n < ((g + n / g) / 2 + 1) * ((g + n / g) / 2 + 1) := by
 have q : n < g * (n / g + 1) := by
   have := Nat.div_add_mod n g
   have := Nat.mod_lt n hg
   rw [Nat.mul_add, Nat.mul_one]
   omega
 generalize n / g = d at q
 have b : g + (d + 1) <= 2 * ((g + d) / 2 + 1) := by omega
 generalize (g + d) / 2 + 1 = c at b
 have s1 : (g + (d + 1)) * (g + (d + 1)) <= 2 * c * (2 * c) := Nat.mul_le_mul b b
 have s2 : 4 * (g * (d + 1)) <= (g + (d + 1)) * (g + (d + 1)) := by
   generalize d + 1 = e
   rcases Nat.le_total g e with h | h
   . obtain ⟨k, rfl⟩ := Nat.exists_eq_add_of_le h
     have e1 : (g + (g + k)) * (g + (g + k)) = 4 * (g * (g + k)) + k * k := by
       simp only [Nat.mul_add, Nat.add_mul]
       have := Nat.mul_comm k g
       omega
     omega
   . obtain ⟨k, rfl⟩ := Nat.exists_eq_add_of_le h
     have e1 : (e + k + e) * (e + k + e) = 4 * ((e + k) * e) + k * k := by
       simp only [Nat.mul_add, Nat.add_mul]
       have := Nat.mul_comm k e
       omega
     omega
 have s3 : 2 * c * (2 * c) = 4 * (c * c) := by
   rw [Nat.mul_mul_mul_comm]
 omega
def V3n : Sp := fun vs H Q _ => ∃ n : Nat, vs = [.int (n : Int)] /\ n < 10 ^ 300 /\ ∀ r : Nat, r * r <= n -> n < (r + 1) * (r + 1) -> Q (.int (r : Int)) H
theorem scWRoot : C5 ["whole", "guess", "better"] ["whole"] (A2 B1x) := scK
theorem Y5t {f f1 f2 : Addr} {fd fd1 fd2 : FuncData} (D : Def K mg "whole_root" ["whole"] B1x f fd) (D_ten_to : Def K mg "ten_to" ["count"] A0q f1 fd1) (G_ten_to : sI P w K mg base 2 f1 fd1 ["count"] A2h) (D_whole_lead : Def K mg "whole_lead" ["whole"] A6c f2 fd2) (G_whole_lead : sI P w K mg base 3 f2 fd2 ["whole"] C7r) : sI P w K mg base 4 f fd ["whole"] V3n := by
 refine A8.up (D.F.ok scWRoot (fun vs H Q E h => ?_) (fun cdv A outer s H vs Q E hr h => ?_))
 . obtain ⟨n, rfl, _⟩ := h
   rfl
 obtain ⟨n, rfl, n2, k⟩ := h
 have hx : U1 (A1x CX0 P w K mg base ["whole", "guess", "better"] "whole_root" (A2 B1x) f cdv A outer s H E).nox EKF := Y1
 refine ⟨_, (A3 (G4 (C7 G2 (pv 0) A1 (C6 _)) (A6 (B0 A1)) D0) (A3 (D3 (i := 1) scWRoot.nd rfl (Or.inl rfl) (C9 D_ten_to G_ten_to hr hx (A0 (A9 J4 (A9 D8 (C9 D_whole_lead G_whole_lead hr hx (A0 (pv 0) A5)) A1) A1) A5))) (A3 (D3 (i := 2) scWRoot.nd rfl (Or.inl rfl) (A9 D8 (A9 J4 (pv 1) (A9 D8 (pv 0) (pv 1))) A1)) (A3 (A2q PassesOwn.never (C7 B6s (pv 2) (pv 1) (C6 _)) (A3 (D3 (i := 1) scWRoot.nd rfl (Or.inl rfl) (pv 2)) (A6 (D3 (i := 2) scWRoot.nd rfl (Or.inl rfl) (A9 D8 (A9 J4 (pv 1) (A9 D8 (pv 0) (pv 1))) A1))))) (A6 (B0 (pv 1))))))), ?_⟩
 have d2 : (0 : Int) < 2 /\ (2 : Int).natAbs.log2 < 9000 := ⟨by decide, by decide +kernel⟩
 refine ⟨_, rfl, rfl, _, rfl, J1 (fun h0 => ?_) (fun h0 => ?_)⟩
 . have e : n = 0 := by
     have : (n : Int) = 0 := by injection h0
     omega
   subst e
   exact k 0 (Nat.le_refl _) (by decide)
 have n1 : 1 <= n := by
   apply Classical.byContradiction
   intro z
   exact h0 (by rw [show n = 0 by omega]; rfl)
 have lg : ∀ {g : Nat}, 1 <= g -> g < 2 ^ 1000 -> 0 < (g : Int) /\ (g : Int).natAbs.log2 < 9000 := fun h1 h2 => ⟨by omega, Nat.lt_trans (A0s (k := 1000) (by rw [Int.natAbs_natCast]; exact h2) (by decide)) (by decide)⟩
 refine ⟨_, rfl, n, rfl, n1, Nat.lt_trans n2 (Nat.pow_lt_pow_right (by decide) (by decide)), fun L L1 L2 => ?_⟩
 have l3 : L < 300 := (Nat.pow_lt_pow_iff_right (by decide : 1 < 10)).mp (Nat.lt_of_le_of_lt L1 n2)
 refine ⟨_, _, rfl, rfl, d2, _, _, rfl, rfl, L / 2 + 1, rfl, by omega, ?_⟩
 have g1 : 1 <= 10 ^ (L / 2 + 1) := Nat.pow_pos (by decide)
 have g2 : 10 ^ (L / 2 + 1) < 2 ^ 1000 := Nat.lt_of_le_of_lt (Nat.pow_le_pow_right (by decide) (show L / 2 + 1 <= 200 by omega)) (by decide +kernel)
 have g3 : n < (10 ^ (L / 2 + 1) + 1) * (10 ^ (L / 2 + 1) + 1) := by
   have a : 10 ^ (L + 1) <= 10 ^ (L / 2 + 1) * 10 ^ (L / 2 + 1) := by
     rw [<- Nat.pow_add]
     exact Nat.pow_le_pow_right (by decide) (by omega)
   have b : 10 ^ (L / 2 + 1) * 10 ^ (L / 2 + 1) <= (10 ^ (L / 2 + 1) + 1) * (10 ^ (L / 2 + 1) + 1) := Nat.mul_le_mul (Nat.le_succ _) (Nat.le_succ _)
   omega
 refine ⟨_, rfl, _, rfl, _, rfl, _, _, rfl, rfl, lg g1 g2, _, _, rfl, rfl, _, _, rfl, rfl, d2, ?_⟩
 refine A0z (fun σ H2 => H2 = H /\ ∃ g : Nat, 1 <= g /\ g < 2 ^ 1000 /\ n < (g + 1) * (g + 1) /\ σ = [si (n : Int), si (g : Int), si (((g + n / g) / 2 : Nat) : Int)]) (fun σ _ => match σ with | [_, some (.int c), _] => c.toNat | _ => 0) ?_ ?_ ?_
 . exact ⟨rfl, 10 ^ (L / 2 + 1), g1, g2, g3, rfl⟩
 . rintro σ H2 ⟨rfl, g, g1, g2, g3, rfl⟩
   refine ⟨_, rfl, _, rfl, _, _, rfl, rfl, _, rfl, J1 (fun hlt => ?_) (fun hge => ?_)⟩
   . have hlt : (g + n / g) / 2 < g := Int.ofNat_lt.mp hlt
     have b1 : 1 <= (g + n / g) / 2 := by
       rcases (by omega : g = 1 \/ 2 <= g) with rfl | h
       . rw [Nat.div_one]; omega
       . clear hlt
         generalize n / g = d
         omega
     have b3 := Y5h (n := n) g1
     generalize (g + n / g) / 2 = b at hlt b1 b3
     refine ⟨_, rfl, _, rfl, _, rfl, _, rfl, _, _, rfl, rfl, lg b1 (Nat.lt_trans hlt g2), _, _, rfl, rfl, _, _, rfl, rfl, d2, ⟨rfl, b, b1, Nat.lt_trans hlt g2, b3, rfl⟩, ?_⟩
     show (b : Int).toNat < (g : Int).toNat
     omega
   . have hge : g <= (g + n / g) / 2 := by
       have : ¬ ((g + n / g) / 2 < g) := fun z => hge (Int.ofNat_lt.mpr z)
       omega
     refine ⟨_, rfl, k g ?_ g3⟩
     have : g <= n / g := by omega
     exact (Nat.le_div_iff_mul_le (by omega)).mp this
 rintro σ H2 Q1 Q2 hQ ⟨v, e, v2, e2, i, j, e3, e4, b, e5, q⟩
 exact ⟨v, e, v2, e2, i, j, e3, e4, b, e5, hQ _ _ q⟩
abbrev C9a : Stmt := (J2 (top 7) 2)
abbrev A4j : Stmt := (J2 (top 7) 1)
theorem V3q {t : Int} (h : SzQ t) : ∃ n : Nat, t = (n : Int) /\ 1 <= n /\ n < 10 ^ 61 := by
 obtain ⟨n, rfl⟩ := Int.eq_ofNat_of_zero_le (show 0 <= t by have := h.1; omega)
 have := h.1; have := h.2
 exact ⟨n, rfl, by omega, by omega⟩
theorem A0he {h m : Int} (hp : 0 < h) : Z4 (2 * h) m = 1 + (if decide (m <= 4 * h) = true then 1 else 0) + (if decide (m < 4 * h) = true then 1 else 0) := by
 unfold Z4
 rw [decide_eq_true (by omega : 0 < 2 * h), show 2 * (2 * h) = 4 * h by omega]
 rfl
theorem D9k {t L : Nat} {n f : Int} (t1 : 10 ^ L <= t) (t2 : t < 10 ^ (L + 1)) (e : f = ((L : Int) + n) / 2) : A6q t (n - 2 * f) := by
 have hs : n - 2 * f = -(L : Int) \/ n - 2 * f = 1 - (L : Int) := by omega
 have key : ∀ u v : Nat, (u = 0 /\ (v = L \/ v + 1 = L)) \/ (u = 1 /\ v = 0 /\ L = 0) -> 10 ^ v <= t * 10 ^ u /\ t * 10 ^ u < 100 * 10 ^ v := by
   rintro u v (⟨rfl, rfl | rfl⟩ | ⟨rfl, rfl, rfl⟩)
   . rw [Nat.pow_succ] at t2
     omega
   . rw [Nat.pow_succ] at t1
     rw [Nat.pow_succ, Nat.pow_succ] at t2
     omega
   . simp at t1 t2 ⊢
     omega
 have := key (n - 2 * f).toNat (-(n - 2 * f)).toNat (by omega)
 unfold A6q A4
 exact ⟨Int.ofNat_le.mpr this.1, Int.ofNat_lt.mpr this.2⟩
theorem Y7q : C5 ["self"] ["self"] (A2 A4j) := scK
theorem V7f {f f1 CR CE : Addr} {fd fd1 : FuncData} (F : Fun K "first" "Root.first" A4j f fd) (D_whole_lead : Def K mg "whole_lead" ["whole"] A6c f1 fd1) (G_whole_lead : sI P w K mg base 3 f1 fd1 ["whole"] C7r) (R : V7z K mg CR CE) : sI P w K mg base 4 f fd ["self"] (B1b CR) := by
 refine A8.up (F.ok Y7q (fun vs H Q E h => ?_) (fun cdv A outer s H vs Q E hr h => ?_))
 . obtain ⟨x, t, n, rfl, _⟩ := h
   rfl
 obtain ⟨x, t, n, rfl, ra, ht, _, _, k⟩ := h
 have hx : U1 (A1x CX0 P w K mg base ["self"] "Root.first" (A2 A4j) f cdv A outer s H E).nox EKF := Y1
 refine ⟨_, (A6 (B0 (A9 D8 (A9 J4 (C9 D_whole_lead G_whole_lead hr hx (A0 (D6 (pv 0) rfl) A5)) (D6 (pv 0) rfl)) A1))), ?_⟩
 obtain ⟨tn, rfl, ta, tb⟩ := V3q ht
 obtain ⟨dx, e⟩ := id ra
 have d2 : (0 : Int) < 2 /\ (2 : Int).natAbs.log2 < 9000 := ⟨by decide, by decide +kernel⟩
 refine ⟨_, rfl, x, CR, dx, _, _, rfl, e, R.cl, R.n_top, V2x _ _, tn, rfl, ta, Nat.lt_trans tb (Nat.pow_lt_pow_right (by decide) (by decide)), fun L L1 L2 => ?_⟩
 exact ⟨_, rfl, x, CR, dx, _, _, rfl, e, R.cl, R.n_power, D9b _ _, _, _, rfl, rfl, _, _, rfl, rfl, d2, k _ H (C8.refl H) (D9k L1 L2 rfl)⟩
theorem scQAt : C5 Q52 Q15 (A2 C9a) := scK
theorem A0sj {f f1 f2 f3 CR CE : Addr} {fd fd1 fd2 fd3 : FuncData} (F : Fun K "at" "Root.at" C9a f fd) (D_ten_to : Def K mg "ten_to" ["count"] A0q f1 fd1) (G_ten_to : sI P w K mg base 2 f1 fd1 ["count"] A2h)
   (D_part_of : Def K mg "part_of" Q20 A5p f2 fd2) (G_part_of : sI P w K mg base 1 f2 fd2 Q20 C9b) (D_whole_root : Def K mg "whole_root" ["whole"] B1x f3 fd3) (G_whole_root : sI P w K mg base 4 f3 fd3 ["whole"] V3n) (R : V7z K mg CR CE) (O : Own mg) : sI P w K mg base 5 f fd Q15 (J4s CR) := by
 refine A8.up (F.ok scQAt (fun vs H Q E h => ?_) (fun cdv A outer s H vs Q E hr h => ?_))
 . obtain ⟨x, t, n, p, rfl, _⟩ := h
   rfl
 obtain ⟨x, t, n, p, rfl, ⟨dx, e⟩, ht, h1, h2, k⟩ := h
 have hx : U1 (A1x CX0 P w K mg base Q52 "Root.at" (A2 C9a) f cdv A outer s H E).nox EKF := Y1
 refine ⟨_, (A3 (D3 (i := 2) scQAt.nd rfl (Or.inl rfl) (A9 J8 (D6 (pv 0) rfl) (A9 G5 A1 (pv 1)))) (A3 (D3 (i := 3) scQAt.nd rfl (Or.inl rfl) (A9 G5 (D6 (pv 0) rfl) (C9 D_ten_to G_ten_to hr hx (A0 (J3 (Y3 rfl) (by rfl) O.max_ boot_max (A0 (pv 2) (A0 A1 A5))) A5)))) (A3 (D3 (i := 4) scQAt.nd rfl (Or.inl rfl) (C9 D_ten_to G_ten_to hr hx (A0 (J3 (Y3 rfl) (by rfl) O.max_ boot_max (A0 (B1e A4m (pv 2)) (A0 A1 A5))) A5))) (A3 (D3 (i := 5) scQAt.nd rfl (Or.inl rfl) (C9 D_whole_root G_whole_root hr hx (A0 (A9 D8 (pv 3) (pv 4)) A5))) (A3 (G4 (C7 G2 (A9 G5 (A9 G5 (pv 5) (pv 5)) (pv 4)) (pv 3) (C6 _)) (A6 (B0 (U5 (A0 (pv 5) (A0 A1 A5))))) D0) (A6 (B0 (U5 (A0 (pv 5) (A0 (C9 D_part_of G_part_of hr hx (A0 (A9 G5 A1 (pv 3)) (A0 (A9 G5 (A9 G5 (A9 J4 (A9 G5 A1 (pv 5)) A1) (A9 J4 (A9 G5 A1 (pv 5)) A1)) (pv 4)) A5))) A5)))))))))), ?_⟩
 have z2 : 2 <= sizeLine := D7 (by decide)
 have mC' : ∀ z n : Int, -(2 ^ 64) < n -> n < 2 ^ 64 -> IntMulOk n z := fun z n a b => A2u.ok (.inl ⟨a, b⟩)
 have oT : IntMulOk t (A4 (n - 2 * p)) := Y9 (Nat.lt_of_lt_of_le ht.small (C8d (by decide))) (Nat.lt_of_lt_of_le (A4w h2) (C8d (by decide)))
 refine ⟨_, rfl, x, CR, dx, _, _, rfl, e, R.cl, R.n_power, D9b _ _, _, rfl, _, _, rfl, rfl, mC' _ _ (by decide) (by decide), _, _, rfl, rfl, ?_⟩
 refine ⟨_, rfl, x, CR, dx, _, _, rfl, e, R.cl, R.n_top, V2x _ _, _, rfl, _, _, rfl, (n - 2 * p).toNat, congrArg (fun z => [V.int z]) (maxT (n - 2 * p)), by omega, _, _, rfl, rfl, oT, ?_⟩
 refine ⟨_, rfl, _, rfl, _, _, rfl, (-(n - 2 * p)).toNat, congrArg (fun z => [V.int z]) (maxT (-(n - 2 * p))), by omega, ?_⟩
 have lp : 0 < A4 (-(n - 2 * p)) := D4 _
 have ll : (A4 (-(n - 2 * p))).natAbs.log2 < 9000 := Nat.lt_trans (A0s (A4w (by omega)) (by decide)) (by decide)
 have hp : 0 < t * A4 (n - 2 * p) := Int.mul_pos (by have := ht.1; omega) (D4 _)
 have hs := C9w ht h2
 obtain ⟨hi, ehi⟩ := Int.eq_ofNat_of_zero_le (Int.le_of_lt hp)
 obtain ⟨lo, elo⟩ := Int.eq_ofNat_of_zero_le (Int.le_of_lt lp)
 have b300 : hi / lo < 10 ^ 300 := by
   have a : hi < 2 ^ 903 := by rw [ehi, Int.natAbs_natCast] at hs; exact hs
   exact Nat.lt_of_le_of_lt (Nat.div_le_self _ _) (Nat.lt_trans a (by decide +kernel))
 refine ⟨_, rfl, _, rfl, _, _, rfl, rfl, ⟨lp, ll⟩, hi / lo, (by show [V.int (t * A4 (n - 2 * p) / A4 (-(n - 2 * p)))] = _; rw [ehi, elo]; rfl), b300, fun r r1 r2 => ?_⟩
 have lo0 : 0 < lo := by omega
 have rt : A1t t (n - 2 * p) (r : Int) := by
   refine ⟨by omega, ?_, ?_⟩
   . rw [ehi, elo]
     have := (Nat.le_div_iff_mul_le lo0).mp r1
     exact Int.ofNat_le.mpr this
   . rw [ehi, elo]
     have := (Nat.div_lt_iff_lt_mul lo0).mp r2
     exact Int.ofNat_lt.mpr this
 have m := V3a ht h1 h2 rt
 refine ⟨_, rfl, _, rfl, _, _, rfl, rfl, m.o2, _, rfl, _, _, rfl, rfl, m.o3, _, rfl, rfl, _, rfl, J1 (fun he => ?_) (fun hn => ?_)⟩
 . have he : (r : Int) * r * A4 (-(n - 2 * p)) = t * A4 (n - 2 * p) := by injection he
   refine ⟨_, rfl, z2, fun q nq => k r q _ (C8.upd nq) nq rt ?_⟩
   rw [A7]
   unfold C7e
   rw [if_pos he]
 have hn : ¬ (r : Int) * r * A4 (-(n - 2 * p)) = t * A4 (n - 2 * p) := fun z => hn (congrArg V.int z)
 have m0 : 0 < (2 * (r : Int) + 1) * (2 * (r : Int) + 1) * A4 (-(n - 2 * p)) := Int.mul_pos (Int.mul_pos (by omega) (by omega)) lp
 refine ⟨_, rfl, _, rfl, _, _, rfl, rfl, mC' _ _ (by decide) (by decide), _, rfl, _, _, rfl, rfl, mC' _ _ (by decide) (by decide), _, _, rfl, rfl, _, rfl, _, _, rfl, rfl, mC' _ _ (by decide) (by decide), _, _, rfl, rfl, _, _, rfl, rfl, m.o6, _, rfl, _, _, rfl, rfl, m.o7, 2 * (t * A4 (n - 2 * p)), (2 * (r : Int) + 1) * (2 * (r : Int) + 1) * A4 (-(n - 2 * p)), ?_, by omega, m0, z2, fun q nq => k r q _ (C8.upd nq) nq rt ?_⟩
 . show [V.int (4 * (t * A4 (n - 2 * p))), _] = [V.int (2 * (2 * (t * A4 (n - 2 * p)))), _]
   rw [show 2 * (2 * (t * A4 (n - 2 * p))) = 4 * (t * A4 (n - 2 * p)) by omega]
   rfl
 rw [A7, A0he hp]
 unfold C7e
 rw [if_neg hn]
theorem V2u : ∀ n : Nat, ∃ r : Nat, r * r <= n /\ n < (r + 1) * (r + 1)
 | 0 => ⟨0, by decide, by decide⟩
 | n + 1 => by
   obtain ⟨r, h1, h2⟩ := V2u n
   by_cases h : n + 1 < (r + 1) * (r + 1)
   . exact ⟨r, by omega, h⟩
   . refine ⟨r + 1, by omega, ?_⟩
     have : (r + 1 + 1) * (r + 1 + 1) = (r + 1) * (r + 1) + 2 * (r + 1) + 1 := by
       simp only [Nat.add_mul, Nat.mul_add]
       omega
     omega
theorem A0hs {t s : Int} (ht : 1 <= t) : ∃ w, A1t t s w := by
 obtain ⟨hi, ehi⟩ := Int.eq_ofNat_of_zero_le (Int.le_of_lt (Int.mul_pos (show 0 < t by omega) (D4 s)))
 obtain ⟨lo, elo⟩ := Int.eq_ofNat_of_zero_le (Int.le_of_lt (D4 (-s)))
 have lo0 : 0 < lo := by have := D4 (-s); omega
 obtain ⟨r, r1, r2⟩ := V2u (hi / lo)
 refine ⟨r, by omega, ?_, ?_⟩
 . rw [ehi, elo]
   exact Int.ofNat_le.mpr ((Nat.le_div_iff_mul_le lo0).mp r1)
 rw [ehi, elo]
 exact Int.ofNat_lt.mpr ((Nat.div_lt_iff_lt_mul lo0).mp r2)
noncomputable def whQ (t s : Int) : Int := by
 classical exact if h : ∃ w, A1t t s w then Classical.choose h else 0
theorem A6r {t s : Int} (ht : 1 <= t) : A1t t s (whQ t s) := by
 have h := A0hs (s := s) ht
 unfold whQ
 rw [dif_pos h]
 exact Classical.choose_spec h
theorem U1a {t s w : Int} (ht : 1 <= t) (h : A1t t s w) : whQ t s = w := A0hq (A6r ht) h
noncomputable def rooE (CR : Addr) (t n L : Int) : Exa := ⟨fun H x => C6u CR H x t n, L, fun q => whQ t (n - 2 * q), fun q => C7e t (n - 2 * q) (whQ t (n - 2 * q)), fun q => -200 <= n - 2 * q /\ n - 2 * q <= 200⟩
theorem rooV {CR : Addr} {t n L : Int} (ht : SzQ t) (n1 : -900 <= n) (n2 : n <= 900) (hL : A6q t (n - 2 * L)) : ExV CR (B1b CR) (J4s CR) (rooE CR t n L) where
 same := fun _ _ _ h s => C6u.same h s
 ins := fun _ _ h => by
   obtain ⟨dx, e⟩ := h
   exact ⟨dx, _, e, G1z _ _, V7r _ _⟩
 first := fun H x Q E h k => ⟨x, t, n, rfl, h, ht, n1, n2, fun f H' s ld => by
   have ef : f = L := Y5x (show 0 < t by have := ht.1; omega) ld hL
   rw [ef]
   exact k H' s⟩
 at_ := fun H x q Q E h ok k => ⟨x, t, n, q, rfl, h, ht, ok.1, ok.2, fun wh p H' s np rt ep => by
   have e := U1a ht.1 rt
   refine k p H' s np ?_
   show H' p = some (.tup [.int (whQ t (n - 2 * q)), .int (C7e t (n - 2 * q) (whQ t (n - 2 * q)))])
   rw [e]
   exact ep⟩
theorem rooM {CR CE g1 g2 : Addr} {gd1 gd2 : FuncData} (RM : RooM P w K mg base CR g1 g2 gd1 gd2) (R : V7z K mg CR CE) : ExM P w K mg base CR g1 g2 gd1 gd2 (B1b CR) (J4s CR) := ⟨R.cl, RM.m1, RM.g1, RM.b1, RM.m2, RM.g2, RM.b2⟩
abbrev A3q : Stmt := (top 25)
abbrev A7q : Stmt := (top 26)
def C0h (K : Frag) (CN CB : Addr) : Sp := fun vs H Q E => ∃ l ns, vs = [.ref l] /\ (∀ p ∈ (ns : List (Addr × Nm)), V1 CN H p.1 p.2) /\
 ((H l = some (.lst (ns.map fun p => V.ref p.1)) /\ Q .non H) \/ (∃ v r, H l = some (.lst ((ns.map fun p => V.ref p.1) ++ v :: r)) /\ U0b K CN H v /\ E (.ref CB) none H))
theorem scNeedNs : C5 ["things", "thing"] ["things"] (A2 A3q) := scK
theorem V7a {f f1 CN CB : Addr} {fd fd1 : FuncData} (D : Def K mg "need_numbers" ["things"] A3q f fd) (D_need_number : Def K mg "need_number" ["thing"] A4p f1 fd1) (G_need_number : sI P w K mg base 1 f1 fd1 ["thing"] (C0f K CN CB)) : sI P w K mg base 2 f fd ["things"] (C0h K CN CB) := by
 refine D.F.okE scNeedNs (fun vs H Q E h => ?_) (fun X cdv A outer s H vs Q E hX hr hx h => ?_)
 . obtain ⟨l, ns, rfl, _⟩ := h
   rfl
 subst hX
 obtain ⟨l, ns, rfl, hn, h⟩ := h
 refine ⟨_, (A6 (B7y PassesOwn.leaving rfl (G1g (pv 0)) (J7 (i := 1) scNeedNs.nd rfl (Or.inl rfl)) (A6 (V7 (C9 D_need_number G_need_number hr hx (A0 (pv 1) A5)))))), ?_⟩
 rcases h with ⟨hl, k⟩ | ⟨v, r, hl, nv, k⟩
 . refine ⟨_, rfl, l, rfl, ⟨_, SqL.of hl⟩, B1d (xs := ns.map fun p => V.ref p.1) (fun i σ H' => H' = H /\ ∃ v, σ = [sr l, v]) ⟨rfl, none, rfl⟩ ?_ ?_ ?_⟩
   . rintro i σ H' _ ⟨rfl, _⟩
     exact SqL.of hl
   . rintro i x σ H' hi ⟨rfl, v, rfl⟩
     obtain ⟨p, hp, rfl⟩ := List.mem_map.mp (List.mem_of_getElem? hi)
     exact ⟨_, rfl, _, rfl, .inl ⟨p.1, _, _, _, _, rfl, hn p hp, rfl, _, rfl⟩⟩
   . rintro σ H' ⟨rfl, v, rfl⟩
     exact k
 refine ⟨_, rfl, l, rfl, ⟨_, SqL.of hl⟩, B1d (xs := (ns.map fun p => V.ref p.1) ++ v :: r) (fun i σ H' => H' = H /\ i <= ns.length /\ ∃ v, σ = [sr l, v]) ⟨rfl, Nat.zero_le _, none, rfl⟩ ?_ ?_ ?_⟩
 . rintro i σ H' _ ⟨rfl, _⟩
   exact SqL.of hl
 . rintro i x σ H' hi ⟨rfl, hle, u, rfl⟩
   by_cases hlt : i < ns.length
   . rw [List.getElem?_append_left (by simpa using hlt)] at hi
     obtain ⟨p, hp, rfl⟩ := List.mem_map.mp (List.mem_of_getElem? hi)
     exact ⟨_, rfl, _, rfl, .inl ⟨p.1, _, _, _, _, rfl, hn p hp, rfl, by omega, _, rfl⟩⟩
   . have e : i = ns.length := by omega
     subst e
     rw [List.getElem?_append_right (by simp)] at hi
     simp at hi
     subst hi
     exact ⟨_, rfl, _, rfl, .inr ⟨nv, k⟩⟩
 rintro σ H' ⟨rfl, hle, _⟩
 exfalso
 rw [List.length_append, List.length_map, List.length_cons] at hle
 omega
def C7k (CN : Addr) : Sp := fun vs H Q _ => ∃ l ns z, vs = [.ref l, .str z] /\ Y8j CN H l ns /\ ns.length <= 1000 /\ ∀ H', C8 H H' -> Q (.bl (ns.any fun p => decide (p.2.k.str = z))) H'
theorem A0hd : C5 Q17 Q17 (A2 A7q) := scK
theorem A0td (ns : List (Addr × Nm)) (z : Str) : (ns.map fun p => decide (p.2.k.str = z)).any id = ns.any fun p => decide (p.2.k.str = z) := by rw [List.any_map]; rfl
theorem dec_str {a b : Str} : decide (V.str a = V.str b) = decide (a = b) := by
 by_cases h : a = b
 . rw [decide_eq_true h, decide_eq_true (congrArg V.str h)]
 rw [decide_eq_false h, decide_eq_false fun q => h (by injection q)]
theorem Y6v {f CN : Addr} {fd : FuncData} (D : Def K mg "some_of_kind" Q17 A7q f fd) (O : Own mg) (N : Num K mg CN) : sI P w K mg base 1 f fd Q17 (C7k CN) := by
 refine A8.up (D.F.ok A0hd (fun vs H Q E h => ?_) (fun cdv A outer s H vs Q E hr h => ?_))
 . obtain ⟨l, ns, z, rfl, _⟩ := h
   rfl
 obtain ⟨l, ns, z, rfl, ⟨hl, hn⟩, hz, k⟩ := h
 refine ⟨_, (A6 (B0 (J3 (Y8a hr.hd) (by rfl) O.any_ boot_any (A0 (V6f (N := ["number"]) (F := ["kind"]) (js := [1]) (U7.of1 ⟨rfl, by decide +kernel, by decide +kernel, by decide +kernel, by decide +kernel⟩ (by rfl) (by rfl) ⟨_, by rfl⟩ (by rfl) (by rfl)) (.inl hr.hd) (C0b (pv 0)) rfl (fun C s₀ H₀ ex pn h => J7 (i := 0) (by decide +kernel : (["number", "kind"] : List Str).Nodup) rfl (Or.inl rfl)) (fun C s₀ H₀ ex pn h => (G9 G2 (A0jg (K := K) rfl (pv 0) rfl) (pv 1) (C6 _)))) A5)))), ?_⟩
 refine ⟨_, rfl, l, rfl, ⟨_, SqL.of hl⟩, B5j (J := Itl K l) (n := ns.length) (fun i y _ => ∃ p, ns[i]? = some p /\ y = .bl (decide (p.2.k.str = z))) hz (fun _ _ _ _ _ _ h _ _ => h) (fun i H2 Qy hi sm hy => ⟨⟨_, V.ref ns[i].1, SqL.of (sm _ _ hl), by simp [hi]⟩, fun x H3 yl => ?_⟩) (fun H2 sm => ⟨_, SqL.of (sm _ _ hl), by simp⟩) (fun D H' ys sm nD eD hlen hR => ?_)⟩
 . obtain ⟨rfl, yl⟩ := yl
   have ex : x = V.ref ns[i].1 := by
     have := yl _ (SqL.of (sm _ _ hl))
     simp [hi] at this
     exact this.symm
   subst ex
   obtain ⟨dx, e⟩ := (hn _ (List.getElem_mem hi)).same sm
   refine ⟨_, rfl, ns[i].1, CN, dx, _, _, rfl, e, N.cl, N.n1, B1u _ _ _ _, _, rfl, rfl, hy _ _ (C8.refl _) ⟨ns[i], by simp [hi], ?_⟩⟩
   rw [dec_str]
 have ey : ys = (ns.map fun p => decide (p.2.k.str = z)).map V.bl := by
   apply List.ext_getElem?
   intro i
   by_cases hi : i < ns.length
   . obtain ⟨p, hp, hy⟩ := hR i ys[i] (by simp [hlen, hi])
     rw [List.getElem?_eq_getElem (by omega), hy]
     simp [hp]
   . rw [List.getElem?_eq_none (by omega), List.getElem?_eq_none (by simp; omega)]
 subst ey
 refine ⟨D, _, rfl, SqL.of eD, ?_⟩
 rw [A0td]
 exact k H' sm
theorem C8q {v : Cv} {L n : Int} (ok : v.Ok) (h1 : -1000 <= n - L) (h2 : n - L <= 1000) (n1 : -400 <= n) (n2 : n <= 400) : -1500 <= n - v.fin L /\ n - v.fin L <= 1500 := by
 have := ok.r1; have := ok.r2; have := ok.l1; have := ok.l2
 unfold Cv.fin A0u
 split <;> omega
theorem A8f {t b s : Int} (ht : Sz t) (hb : Sz b) (h : A0w t b s) : -1000 <= s /\ s <= 1000 := by
 have e := D4 1000
 refine ⟨?_, ?_⟩
 . apply Classical.byContradiction
   intro hs
   have z : A4 s = 1 := by unfold A4; rw [show s.toNat = 0 by omega]; rfl
   have g : A4 1000 <= A4 (-s) := V8 (by omega)
   have a := h.1
   rw [z, Int.mul_one] at a
   have : 1 * A4 (-s) <= b * A4 (-s) := Int.mul_le_mul_of_nonneg_right hb.1 (Int.le_of_lt (D4 _))
   have := ht.2
   omega
 apply Classical.byContradiction
 intro hs
 have z : A4 (-s) = 1 := by unfold A4; rw [show (-s).toNat = 0 by omega]; rfl
 have g : A4 1001 <= A4 s := V8 (by omega)
 have e1 : A4 1001 = 10 * A4 1000 := by
   unfold A4
   rw [show (1001 : Int).toNat = (1000 : Int).toNat + 1 by decide, Nat.pow_succ, Nat.mul_comm]
   rfl
 have a := h.2
 rw [z, Int.mul_one] at a
 have : 1 * A4 s <= t * A4 s := Int.mul_le_mul_of_nonneg_right ht.1 (Int.le_of_lt (D4 _))
 have := hb.2
 omega
theorem A4n : Sz 1 := ⟨by decide, by
 have : A4 1 <= A4 1000 := V8 (by decide)
 have e : A4 1 = 10 := rfl
 omega⟩
theorem G1m {f : Int} (h0 : 0 <= f) (h : f ≠ 0) (h1 : f <= 10 ^ 60 - 1) : Sz f := by
 refine ⟨by omega, ?_⟩
 have : A4 60 <= A4 1000 := V8 (by decide)
 have e : A4 60 = 10 ^ 60 := by decide +kernel
 omega
theorem B5w (n : Nat) (h : 1 <= n) : ∃ L : Nat, 10 ^ L <= n /\ n < 10 ^ (L + 1) := by
 induction n using Nat.strongRecOn with
 | ind n ih =>
   by_cases h10 : n < 10
   . exact ⟨0, by simpa using h, by simpa using h10⟩
   . obtain ⟨L, a, b⟩ := ih (n / 10) (by omega) (by omega)
     refine ⟨L + 1, ?_, ?_⟩
     . rw [Nat.pow_succ]; omega
     . rw [Nat.pow_succ]; omega
theorem A7t {n j : Nat} (h1 : n < 10 ^ (j + 1)) (h2 : 10 ^ j <= n) : V4 (n : Int) = (j : Int) + 1 := by
 unfold V4
 have e : (Str.ofString (toString (n : Int))).length = (Nat.toDigits 10 n).length := by
   have := congrArg List.length (KIN.signs_num n)
   rw [List.length_map] at this
   rw [<- this]; rfl
 rw [e]
 have a : (Nat.toDigits 10 n).length <= j + 1 := digits10_le (by omega) h1
 have b : j + 1 <= (Nat.toDigits 10 n).length := digits10_ge h2
 omega
theorem C9z {c A B : Prop} [Decidable c] (h : ¬ c) (a : A) : if (!decide c) = true then A else B := by rw [decide_eq_false h]; exact Z5 a
def SzL (t : Int) : Prop := 1 <= t /\ t < A4 500
theorem SzL.nat {t : Int} (h : SzL t) : ∃ n : Nat, t = (n : Int) /\ 1 <= n /\ n < 10 ^ 500 := by
 obtain ⟨n, rfl⟩ := Int.eq_ofNat_of_zero_le (show 0 <= t by have := h.1; omega)
 exact ⟨n, rfl, Int.ofNat_le.mp h.1, Int.ofNat_lt.mp h.2⟩
theorem SzL.sz {t : Int} (h : SzL t) : Sz t := ⟨h.1, Int.lt_of_lt_of_le h.2 (V8 (by decide))⟩
theorem SzL.log {t : Int} (h : SzL t) : t.natAbs.log2 < 1920 := by
 obtain ⟨n, rfl, _, hn⟩ := h.nat
 have : n < 2 ^ 1670 := Nat.lt_of_lt_of_le (Nat.lt_of_lt_of_le hn (Nat.pow_le_pow_right (by decide) (by decide : 500 <= 3 * 167))) (J4b 167)
 exact Nat.lt_trans (A0s (i := (n : Int)) (k := 1670) (by rw [Int.natAbs_natCast]; exact this) (by decide)) (by decide)
abbrev A3r : Stmt := (top 27)
abbrev B1m : Stmt := (top 44)
abbrev B0z : Stmt := (top 45)
abbrev C6p : Stmt := (top 51)
abbrev C6m : Stmt := (top 52)
deriving instance DecidableEq for Kd
def A0h (a b : Int) : Int := if a = b then 0 else 1
theorem C1h (a b : Int) : 0 <= A0h a b /\ A0h a b <= 1 := by
 unfold A0h
 split <;> decide
def A1q : Nm := ⟨.none, 0, 0, 0⟩
def A1c (v : Cv) (s i : Int) : Nm := ⟨.plain, s, 0, J5h (A0u i (v.l - v.r + 1)) v.m⟩
def V6g (v : Cv) (x1 x2 : Nm) (i : Int) : Nm × List Str :=
 if x1.k = .end_ then (if x2.k = .end_ then (A1q, ["void"]) else (⟨.end_, A0h x1.s x2.s, 0, 0⟩, []))
 else if x2.k = .end_ then (A1c v (A0h x1.s x2.s) i, []) else if x1.f = 0 then (A1q, ["void"]) else (⟨.end_, A0h x1.s x2.s, 0, 0⟩, ["split"])
def A0a (x1 x2 : Nm) : Prop := x1.k = .plain /\ x2.k = .plain /\ x2.f ≠ 0
instance (x1 x2 : Nm) : Decidable (A0a x1 x2) := by unfold A0a; exact inferInstance
def Two (CN : Addr) (H : Hp) (n1 n2 : Addr) (x1 x2 : Nm) : Prop := V1 CN H n1 x1 /\ V1 CN H n2 x2
theorem Two.same {CN : Addr} {H H' : Hp} {n1 n2 : Addr} {x1 x2 : Nm} (h : Two CN H n1 n2 x1 x2) (e : C8 H H') : Two CN H' n1 n2 x1 x2 := ⟨h.1.same e, h.2.same e⟩
theorem A6v {CN : Addr} {H : Hp} {l n1 n2 : Addr} {x1 x2 : Nm} (h : Two CN H n1 n2 x1 x2) (hl : H l = some (.lst [.ref n1, .ref n2])) : Y8j CN H l [(n1, x1), (n2, x2)] := ⟨hl, List.forall_mem_cons.2 ⟨h.1, List.forall_mem_cons.2 ⟨h.2, by simp⟩⟩⟩
theorem A1r.same {CN CC CT : Addr} {H H1 : Hp} {c : Addr} {v : Cv} {b : Addr} {xs ys : List Str} {res : Nm × List Str} {Q : VK} {E : XK} (k : A1r CN CC CT H c v b xs ys res Q E) (s : C8 H H1) : A1r CN CC CT H1 c v b xs ys res Q E :=
 ⟨fun hn m a' H' x => k.1 hn m a' H' ((Exc.of s).trans x), fun z hz a' d H' x => k.2 z hz a' d H' ((Exc.of s).trans x)⟩
theorem A0gq (tr : List Str) : hit tr [] = none := by
 unfold hit
 rw [List.find?_eq_none]
 simp
theorem A1r.calm {CN CC CT : Addr} {H H1 : Hp} {c n a : Addr} {v : Cv} {b : Addr} {xs ys : List Str} {x : Nm} {Q : VK} {E : XK} (k : A1r CN CC CT H c v b xs ys (x, []) Q E) (ox : Z1 xs = xs) (s : C8 H H1) (hc : A0n CC H c v a b xs ys) (hn : V1 CN H1 n x) : Q (.ref n) H1 :=
 k.1 (A0gq _) n a H1 (Exc.of s) (by show A0n CC H1 c v a b (Z1 (xs ++ [])) ys; rw [List.append_nil, ox]; exact hc.same s) hn
def C0j (CN : Addr) : Sp := fun vs H Q _ => ∃ n1 n2 x1 x2, vs = [.ref n1, .ref n2] /\ Two CN H n1 n2 x1 x2 /\ Q (.int (A0h x1.s x2.s)) H
theorem Y7u : C5 Q4 Q4 (A2 A3r) := scK
theorem V6s {f CN : Addr} {fd : FuncData} (D : Def K mg "unlike_sign" Q4 A3r f fd) (N : Num K mg CN) : sI P w K mg base 1 f fd Q4 (C0j CN) := by
 refine D.F.okE Y7u (fun vs H Q E h => ?_) (fun X cdv A outer s H vs Q E hX hr hx h => ?_)
 . obtain ⟨n1, n2, x1, x2, rfl, _⟩ := h
   rfl
 subst hX
 obtain ⟨n1, n2, x1, x2, rfl, ⟨⟨d1, e1⟩, ⟨d2, e2⟩⟩, k⟩ := h
 refine ⟨_, (A6 (B0 (V5 (C7 C9h (D6 (pv 0) rfl) (D6 (pv 1) rfl) (C6 _)) A1 A1))), ?_⟩
 refine ⟨_, rfl, n1, CN, d1, _, _, rfl, e1, N.cl, N.n2, D5e _ _ _ _, _, rfl, n2, CN, d2, _, _, rfl, e2, N.cl, N.n2, D5e _ _ _ _, rfl, _, rfl, ?_⟩
 unfold A0h at k
 by_cases h : x1.s = x2.s
 . rw [if_pos h] at k
   exact C8r (congrArg V.int h) k
 rw [if_neg h] at k
 rw [decide_eq_false (fun z => h (by injection z) : ¬ V.int x1.s = V.int x2.s)]
 exact Z5 k
def C1u (CN CC CT : Addr) : Sp := fun vs H Q E => ∃ c v a b xs ys, vs = [.ref c] /\ A0n CC H c v a b xs ys /\ xs.length <= 900 /\ A1r CN CC CT H c v b xs ys (A1q, ["void"]) Q E
theorem A0sr : C5 ["context"] ["context"] (A2 B1m) := scK
theorem A0fz {f f1 CN CC CB CT CW : Addr} {cw : Wy -> Addr} {fd fd1 : FuncData} (D : Def K mg "void" ["context"] B1m f fd) (D_nothing : Def K mg "nothing" [] Z0 f1 fd1) (G_nothing : sI P w K mg base 3 f1 fd1 [] (A1w CN)) (C : B8c P w K mg base CC CB CT CW cw) : sI P w K mg base 4 f fd ["context"] (C1u CN CC CT) := by
 refine D.F.okE A0sr (fun vs H Q E h => ?_) (fun X cdv A outer s H vs Q E hX hr hx h => ?_)
 . obtain ⟨c, v, a, b, xs, ys, rfl, _⟩ := h
   rfl
 subst hX
 obtain ⟨c, v, a, b, xs, ys, rfl, hc, lx, k⟩ := h
 obtain ⟨fR, fdR, mR, gR, bR⟩ := C.raised
 refine ⟨_, (A3 (V7 (C6j (pv 0) C.c.cl mR gR hr bR .nil hx (A0 (U4 (A0 D5 A5)) A5))) (A6 (B0 (A3f D_nothing G_nothing hr hx)))), ?_⟩
 have z1 : 1 <= sizeLine := D7 (by decide)
 obtain ⟨dx, e⟩ := hc.ins
 refine ⟨_, rfl, c, dx, _, rfl, e, A2k _ _ _ _ _ _, z1, fun p np => ?_⟩
 have u := C8.upd (o := .lst [.str "void"]) np
 refine ⟨c, v.r, v.y, v.l, v.m, a, b, xs, ys, _, rfl, hc.same u, by omega, .inl ⟨p, ["void"], rfl, A7, by decide, by decide +kernel, fun hn a' H' x na ct => ?_, fun t ht a' d H' x na ct nd ed => ?_⟩⟩
 . exact ⟨rfl, fun n H2 nn s2 num => k.1 hn n a' H2 ((Exc.of u).trans (x.trans (Exc.of s2))) (A1s.same ct s2) num⟩
 exact k.2 t ht a' d H' ((Exc.of u).trans x) ct ed
def G1b (CN CC CT : Addr) : Sp := fun vs H Q E => ∃ c v a b xs ys, ∃ sg : Int, vs = [.ref c, .int sg] /\ A0n CC H c v a b xs ys /\ xs.length <= 900 /\ 0 <= sg /\ sg <= 1 /\ A1r CN CC CT H c v b xs ys (⟨.end_, sg, 0, 0⟩, ["split"]) Q E
theorem A0hh : C5 Q5 Q5 (A2 B0z) := scK
theorem Y6d {f f1 CN CC CB CB' CT CW : Addr} {cw : Wy -> Addr} {fd fd1 : FuncData} (D : Def K mg "split_to_end" Q5 B0z f fd) (D_end : Def K mg "end" ["sign"] G1r f1 fd1) (G_end : sI P w K mg base 3 f1 fd1 ["sign"] (V4h K CN CB')) (C : B8c P w K mg base CC CB CT CW cw) : sI P w K mg base 4 f fd Q5 (G1b CN CC CT) := by
 refine D.F.okE A0hh (fun vs H Q E h => ?_) (fun X cdv A outer s H vs Q E hX hr hx h => ?_)
 . obtain ⟨c, v, a, b, xs, ys, sg, rfl, _⟩ := h
   rfl
 subst hX
 obtain ⟨c, v, a, b, xs, ys, sg, rfl, hc, lx, s0, s1, k⟩ := h
 obtain ⟨fR, fdR, mR, gR, bR⟩ := C.raised
 refine ⟨_, (A3 (V7 (C6j (pv 0) C.c.cl mR gR hr bR .nil hx (A0 (U4 (A0 D5 A5)) A5))) (A6 (B0 (C9 D_end G_end hr hx (A0 (pv 1) A5))))), ?_⟩
 have z1 : 1 <= sizeLine := D7 (by decide)
 obtain ⟨dx, e⟩ := hc.ins
 refine ⟨_, rfl, c, dx, _, rfl, e, A2k _ _ _ _ _ _, z1, fun p np => ?_⟩
 have u := C8.upd (o := .lst [.str "split"]) np
 refine ⟨c, v.r, v.y, v.l, v.m, a, b, xs, ys, _, rfl, hc.same u, by omega, .inl ⟨p, ["split"], rfl, A7, by decide, by decide +kernel, fun hn a' H' x na ct => ?_, fun t ht a' d H' x na ct nd ed => ?_⟩⟩
 . exact ⟨_, rfl, _, rfl, .inl ⟨⟨sg, rfl, s0, s1⟩, fun n H2 nn s2 num => k.1 hn n a' H2 ((Exc.of u).trans (x.trans (Exc.of s2))) (A1s.same ct s2) num⟩⟩
 exact k.2 t ht a' d H' ((Exc.of u).trans x) ct ed
def U0y (CN : Addr) : Sp := fun vs H Q _ => ∃ n1 n2 x1 x2, vs = [.ref n1, .ref n2] /\ Two CN H n1 n2 x1 x2 /\ Q (.bl (decide (A0a x1 x2))) H
theorem A0rw : C5 Q4 Q4 (A2 C6p) := scK
theorem V3m {f CN : Addr} {fd : FuncData} (D : Def K mg "has_plain_quotient" Q4 C6p f fd) (N : Num K mg CN) : sI P w K mg base 1 f fd Q4 (U0y CN) := by
 refine D.F.okE A0rw (fun vs H Q E h => ?_) (fun X cdv A outer s H vs Q E hX hr hx h => ?_)
 . obtain ⟨n1, n2, x1, x2, rfl, _⟩ := h
   rfl
 subst hX
 obtain ⟨n1, n2, x1, x2, rfl, ⟨⟨d1, e1⟩, ⟨d2, e2⟩⟩, k⟩ := h
 refine ⟨_, (A6 (B0 (B1t (G9 G2 (D6 (pv 0) rfl) D5 (C6 _)) (B1t (G9 G2 (D6 (pv 1) rfl) D5 (C6 _)) (A6f (G9 C9h (D6 (pv 1) rfl) A1 (C6 _))))))), ?_⟩
 refine ⟨_, rfl, n1, CN, d1, _, _, rfl, e1, N.cl, N.n1, B1u _ _ _ _, rfl, _, rfl, J1 (fun h => ?_) (fun h => ?_)⟩
 . have h1 : x1.k = .plain := eqS (b := .plain) h
   refine ⟨_, rfl, n2, CN, d2, _, _, rfl, e2, N.cl, N.n1, B1u _ _ _ _, rfl, _, rfl, J1 (fun h' => ?_) (fun h' => ?_)⟩
   . have h2 : x2.k = .plain := eqS (b := .plain) h'
     refine ⟨_, rfl, n2, CN, d2, _, _, rfl, e2, N.cl, N.n3, B6n _ _ _ _, rfl, ?_⟩
     by_cases hf : x2.f = 0
     . rw [decide_eq_false (fun z => z.2.2 hf : ¬ A0a x1 x2)] at k
       rw [decide_eq_true (congrArg V.int hf)]
       exact k
     . have hp : A0a x1 x2 := ⟨h1, h2, hf⟩
       rw [decide_eq_true hp] at k
       rw [decide_eq_false (fun z => hf (V.int.inj z) : ¬ V.int x2.f = V.int 0)]
       exact k
   . rw [decide_eq_false (fun z => h' (by rw [z.2.1]; rfl) : ¬ A0a x1 x2)] at k
     exact k
 rw [decide_eq_false (fun z => h (by rw [z.1]; rfl) : ¬ A0a x1 x2)] at k
 exact k
def J9z (CN CC CT : Addr) : Sp := fun vs H Q E => ∃ c v a b xs ys n1 n2 x1 x2, ∃ i : Int, vs = [.ref c, .ref n1, .ref n2, .int i] /\ A0n CC H c v a b xs ys /\ v.Ok /\ xs.length <= 900 /\ Z1 xs = xs /\ Two CN H n1 n2 x1 x2 /\ A1r CN CC CT H c v b xs ys (V6g v x1 x2 i) Q E
theorem scOddQ : C5 ["context", "one", "other", "ideal", "sign"] Q28 (A2 C6m) := scK
theorem A0hr {f f1 f2 f3 f4 f5 CN CC CB' CT : Addr} {fd fd1 fd2 fd3 fd4 fd5 : FuncData} (D : Def K mg "odd_quotient" Q28 C6m f fd) (D_unlike_sign : Def K mg "unlike_sign" Q4 A3r f1 fd1) (G_unlike_sign : sI P w K mg base 1 f1 fd1 Q4 (C0j CN))
   (D_void : Def K mg "void" ["context"] B1m f2 fd2) (G_void : sI P w K mg base 4 f2 fd2 ["context"] (C1u CN CC CT)) (D_end : Def K mg "end" ["sign"] G1r f3 fd3) (G_end : sI P w K mg base 3 f3 fd3 ["sign"] (V4h K CN CB'))
   (D_nought : Def K mg "nought" Q7 A0j f4 fd4) (G_nought : sI P w K mg base 3 f4 fd4 Q7 (A4u CN CC)) (D_split_to_end : Def K mg "split_to_end" Q5 B0z f5 fd5) (G_split_to_end : sI P w K mg base 4 f5 fd5 Q5 (G1b CN CC CT)) (N : Num K mg CN) :
   sI P w K mg base 5 f fd Q28 (J9z CN CC CT) := by
 refine D.F.okE scOddQ (fun vs H Q E h => ?_) (fun X cdv A outer s H vs Q E hX hr hx h => ?_)
 . obtain ⟨c, v, a, b, xs, ys, n1, n2, x1, x2, i, rfl, _⟩ := h
   rfl
 subst hX
 obtain ⟨c, v, a, b, xs, ys, n1, n2, x1, x2, i, rfl, hc, ok, lx, ox, tw, k⟩ := h
 refine ⟨_, (A3 (D3 (i := 4) scOddQ.nd rfl (Or.inl rfl) (C9 D_unlike_sign G_unlike_sign hr hx (A0 (pv 1) (A0 (pv 2) A5)))) (A3 (G4 (C7 G2 (D6 (pv 1) rfl) D5 (C6 _)) (A6 (B0 (V5 (C7 G2 (D6 (pv 2) rfl) D5 (C6 _)) (C9 D_void G_void hr hx (A0 (pv 0) A5)) (C9 D_end G_end hr hx (A0 (pv 4) A5))))) D0) (A3 (G4 (C7 G2 (D6 (pv 2) rfl) D5 (C6 _)) (A6 (B0 (C9 D_nought G_nought hr hx (A0 (pv 0) (A0 (pv 4) (A0 (pv 3) A5)))))) D0) (A6 (B0 (V5 (C7 G2 (D6 (pv 1) rfl) A1 (C6 _)) (C9 D_void G_void hr hx (A0 (pv 0) A5)) (C9 D_split_to_end G_split_to_end hr hx (A0 (pv 0) (A0 (pv 4) A5))))))))), ?_⟩
 have us := C1h x1.s x2.s
 unfold V6g at k
 refine ⟨_, rfl, _, rfl, n1, n2, x1, x2, rfl, tw, ?_⟩
 obtain ⟨⟨d1, e1⟩, ⟨d2, e2⟩⟩ := id tw
 refine ⟨_, rfl, n1, CN, d1, _, _, rfl, e1, N.cl, N.n1, B1u _ _ _ _, rfl, _, rfl, J1 (fun h => ?_) (fun h => ?_)⟩
 . have h1 : x1.k = .end_ := eqS (b := .end_) h
   rw [if_pos h1] at k
   refine ⟨_, rfl, n2, CN, d2, _, _, rfl, e2, N.cl, N.n1, B1u _ _ _ _, rfl, _, rfl, J1 (fun h' => ?_) (fun h' => ?_)⟩
   . have h2 : x2.k = .end_ := eqS (b := .end_) h'
     rw [if_pos h2] at k
     exact ⟨_, rfl, c, v, a, b, xs, ys, rfl, hc, lx, k⟩
   . have h2 : x2.k ≠ .end_ := neS (b := .end_) h'
     rw [if_neg h2] at k
     exact ⟨_, rfl, _, rfl, .inl ⟨⟨_, rfl, us.1, us.2⟩, fun n H' nn s' num => k.calm ox s' hc num⟩⟩
 have h1 : x1.k ≠ .end_ := neS (b := .end_) h
 rw [if_neg h1] at k
 refine ⟨_, rfl, n2, CN, d2, _, _, rfl, e2, N.cl, N.n1, B1u _ _ _ _, rfl, _, rfl, J1 (fun h' => ?_) (fun h' => ?_)⟩
 . have h2 : x2.k = .end_ := eqS (b := .end_) h'
   rw [if_pos h2] at k
   exact ⟨_, rfl, _, rfl, _, rfl, c, v, a, b, xs, ys, A0h x1.s x2.s, i, rfl, hc, fun n H' nn s' num => k.calm ox s' hc num⟩
 have h2 : x2.k ≠ .end_ := neS (b := .end_) h'
 rw [if_neg h2] at k
 refine ⟨_, rfl, n1, CN, d1, _, _, rfl, e1, N.cl, N.n3, B6n _ _ _ _, rfl, _, rfl, J1 (fun h3 => ?_) (fun h3 => ?_)⟩
 . have h3 : x1.f = 0 := V.int.inj h3
   rw [if_pos h3] at k
   exact ⟨_, rfl, c, v, a, b, xs, ys, rfl, hc, lx, k⟩
 have h3 : ¬ x1.f = 0 := fun z => h3 (congrArg V.int z)
 rw [if_neg h3] at k
 exact ⟨_, rfl, _, rfl, c, v, a, b, xs, ys, _, rfl, hc, lx, us.1, us.2, k⟩
theorem C8z {n1 n2 : Addr} {x1 x2 : Nm} : ([(n1, x1), (n2, x2)].any fun p => decide (p.2.k.str = ("none" : Str))) = decide (x1.k = .none \/ x2.k = .none) := by
 have q : ∀ k : Kd, decide (k.str = ("none" : Str)) = decide (k = .none) := fun k => by cases k <;> decide +kernel
 simp [q]
abbrev C9v : Stmt := (top 48)
def V3s (v : Cv) (x1 x2 : Nm) (L : Int) : Nm × List Str :=
 if x1.k = .none \/ x2.k = .none then (A1q, [])
 else if A0a x1 x2 then (if x1.f = 0 then (A1c v (A0h x1.s x2.s) (x1.p - x2.p), []) else C0g v (A0h x1.s x2.s) x1.f x2.f (x1.p - x2.p) L (x1.p - x2.p))
 else V6g v x1 x2 (v.l - v.r + 1)
def Y4x (CN CC CT : Addr) : Sp := fun vs H Q E => ∃ c v a b xs ys n1 n2 x1 x2 L, vs = [.ref c, .ref n1, .ref n2] /\ A0n CC H c v a b xs ys /\ v.Ok /\ xs.length <= 900 /\ Z1 xs = xs /\ Two CN H n1 n2 x1 x2 /\ x1.Ok /\ x2.Ok /\
 (A0a x1 x2 -> x1.f ≠ 0 -> A0w x1.f x2.f (x1.p - x2.p - L)) /\ A1r CN CC CT H c v b xs ys (V3s v x1 x2 L) Q E
theorem scOver : C5 ["context", "one", "other", "sign", "ideal"] Q9 (A2 C9v) := scK
theorem A0hc {f f1 f2 f3 f4 f5 f6 f7 f8 fR CN CC CB CB' CT CW CR CE : Addr} {cw : Wy -> Addr} {fd fd1 fd2 fd3 fd4 fd5 fd6 fd7 fd8 fdR : FuncData} {d0 : Value} {gP : List Value -> List Value -> List Value} {vP : List V -> List V -> List V} (D : Def K mg "over" Q9 C9v f fd) (D_need_numbers : Def K mg "need_numbers" ["things"] A3q f1 fd1) (G_need_numbers : sI P w K mg base 2 f1 fd1 ["things"] (C0h K CN CB'))
   (D_some_of_kind : Def K mg "some_of_kind" Q17 A7q f2 fd2) (G_some_of_kind : sI P w K mg base 1 f2 fd2 Q17 (C7k CN)) (D_has_plain_quotient : Def K mg "has_plain_quotient" Q4 C6p f3 fd3) (G_has_plain_quotient : sI P w K mg base 1 f3 fd3 Q4 (U0y CN))
   (D_odd_quotient : Def K mg "odd_quotient" Q28 C6m f4 fd4) (G_odd_quotient : sI P w K mg base 5 f4 fd4 Q28 (J9z CN CC CT)) (D_unlike_sign : Def K mg "unlike_sign" Q4 A3r f5 fd5) (G_unlike_sign : sI P w K mg base 1 f5 fd5 Q4 (C0j CN)) (D_nought : Def K mg "nought" Q7 A0j f6 fd6) (G_nought : sI P w K mg base 3 f6 fd6 Q7 (A4u CN CC))
   (D_settled : Def K mg "settled" Q13 A0b f7 fd7) (G_settled : sI P w K mg base 6 f7 fd7 Q13 (A4b CN CC CT CR)) (D_nothing : Def K mg "nothing" [] Z0 f8 fd8) (G_nothing : sI P w K mg base 3 f8 fd8 [] (A1w CN))
   (C : B8c P w K mg base CC CB CT CW cw) (N : Num K mg CN) (MR : J5p P w K mg base CR fR fdR d0 gP vP) (R : G2r K mg CR CE) : sI P w K mg base 7 f fd Q9 (Y4x CN CC CT) := by
 refine D.F.okE scOver (fun vs H Q E h => ?_) (fun X cdv A outer s H vs Q E hX hr hx h => ?_)
 . obtain ⟨c, v, a, b, xs, ys, n1, n2, x1, x2, L, rfl, _⟩ := h
   rfl
 subst hX
 obtain ⟨c, v, a, b, xs, ys, n1, n2, x1, x2, L, rfl, hc, ok, lx, ox, tw, o1, o2, hL, k⟩ := h
 obtain ⟨fL, fdL, mL, gL, bL⟩ := C.low
 refine ⟨_, (A3 (V7 (C9 D_need_numbers G_need_numbers hr hx (A0 (U4 (A0 (pv 1) (A0 (pv 2) A5))) A5))) (A3 (G4 (Y2 (C9 D_some_of_kind G_some_of_kind hr hx (A0 (U4 (A0 (pv 1) (A0 (pv 2) A5))) (A0 D5 A5)))) (A6 (B0 (A3f D_nothing G_nothing hr hx))) D0) (A3 (G4 (A4k (Y2 (C9 D_has_plain_quotient G_has_plain_quotient hr hx (A0 (pv 1) (A0 (pv 2) A5))))) (A6 (B0 (C9 D_odd_quotient G_odd_quotient hr hx (A0 (pv 0) (A0 (pv 1) (A0 (pv 2) (A0 (A6d (pv 0) C.c.cl mL gL hr bL .nil hx) A5))))))) D0) (A3 (D3 (i := 3) scOver.nd rfl (Or.inl rfl) (C9 D_unlike_sign G_unlike_sign hr hx (A0 (pv 1) (A0 (pv 2) A5)))) (A3 (D3 (i := 4) scOver.nd rfl (Or.inl rfl) (A9 J8 (D6 (pv 1) rfl) (D6 (pv 2) rfl))) (A3 (G4 (C7 G2 (D6 (pv 1) rfl) A1 (C6 _)) (A6 (B0 (C9 D_nought G_nought hr hx (A0 (pv 0) (A0 (pv 3) (A0 (pv 4) A5)))))) D0) (A6 (B0 (C9 D_settled G_settled hr hx (A0 (pv 0) (A0 (pv 3) (A0 (A6x MR.m MR.g hr R.g MR.b3 .nil hx (A0 (D6 (pv 1) rfl) (A0 (D6 (pv 2) rfl) (A0 (pv 4) A5)))) (A0 (pv 4) A5))))))))))))), ?_⟩
 have z2 : 2 <= sizeLine := D7 (by decide)
 unfold V3s at k
 refine ⟨_, rfl, _, rfl, z2, fun l nl => ?_⟩
 have u := C8.upd (o := .lst [.ref n1, .ref n2]) nl
 refine ⟨l, [(n1, x1), (n2, x2)], rfl, (A6v (tw.same u) A7).n, .inl ⟨A7, ?_⟩⟩
 refine ⟨_, rfl, _, rfl, z2, fun l2 nl2 => ?_⟩
 have u2 := u.trans (C8.upd (o := .lst [.ref n1, .ref n2]) nl2)
 refine ⟨l2, _, _, rfl, A6v (tw.same u2) A7, (by show 2 <= 1000; decide), fun H3 s3 => ⟨_, rfl, ?_⟩⟩
 rw [C8z]
 have sm3 := u2.trans s3
 have tw3 := tw.same sm3
 have hc3 := hc.same sm3
 refine J1 (fun hn => ?_) (fun hn => ?_)
 . rw [if_pos hn] at k
   exact ⟨rfl, fun n H' nn s' num => k.calm ox (sm3.trans s') hc num⟩
 rw [if_neg hn] at k
 refine ⟨_, rfl, _, rfl, n1, n2, x1, x2, rfl, tw3, _, rfl, ?_⟩
 by_cases hq : A0a x1 x2
 . rw [if_pos hq] at k
   rw [decide_eq_true hq]
   refine V3 ?_
   refine ⟨_, rfl, _, rfl, n1, n2, x1, x2, rfl, tw3, ?_⟩
   obtain ⟨⟨d1, e1⟩, ⟨d2, e2⟩⟩ := id tw3
   refine ⟨_, rfl, n1, CN, d1, _, _, rfl, e1, N.cl, N.n4, A6u _ _ _ _, _, rfl, n2, CN, d2, _, _, rfl, e2, N.cl, N.n4, A6u _ _ _ _, _, _, rfl, rfl, ?_⟩
   refine ⟨_, rfl, n1, CN, d1, _, _, rfl, e1, N.cl, N.n3, B6n _ _ _ _, rfl, _, rfl, J1 (fun hf => ?_) (fun hf => ?_)⟩
   . have hf : x1.f = 0 := V.int.inj hf
     rw [if_pos hf] at k
     exact ⟨_, rfl, _, rfl, _, rfl, c, v, a, b, xs, ys, A0h x1.s x2.s, x1.p - x2.p, rfl, hc3, fun n H' nn s' num => k.calm ox (sm3.trans s') hc num⟩
   . have hf : ¬ x1.f = 0 := fun z => hf (congrArg V.int z)
     rw [if_neg hf] at k
     have f10 := o1.f0; have f11 := o1.f1; have f20 := o2.f0; have f21 := o2.f1
     have p10 := o1.p0; have p11 := o1.p1; have p20 := o2.p0; have p21 := o2.p1
     have z1 : Sz x1.f := G1m f10 hf f11
     have z3 : Sz x2.f := G1m f20 hq.2.2 f21
     have hl := hL hq hf
     have ls := A8f z1 z3 hl
     have fn := C8q (v := v) ok ls.1 ls.2 (by omega) (by omega)
     refine ⟨_, rfl, _, rfl, _, rfl, n1, CN, d1, _, _, rfl, e1, N.cl, N.n3, B6n _ _ _ _, _, rfl, n2, CN, d2, _, _, rfl, e2, N.cl, N.n3, B6n _ _ _ _, _, rfl, fun q dq m1 m2 me => J5e m1 m2 me fun H4 s4 ra => ⟨rfl, ?_⟩⟩
     have sm4 := sm3.trans s4
     have us := C1h x1.s x2.s
     exact ⟨_, rfl, c, v, a, b, xs, ys, q, x1.f, x2.f, x1.p - x2.p, L, A0h x1.s x2.s, x1.p - x2.p, rfl, hc.same sm4, ok, lx, ra, z1, z3, hl, fn.1, fn.2, us.1, us.2, k.same sm4⟩
 rw [if_neg hq] at k
 rw [decide_eq_false hq]
 refine Z5 ?_
 obtain ⟨dx, e⟩ := hc3.ins
 refine ⟨_, rfl, _, rfl, _, rfl, _, rfl, c, dx, _, rfl, e, A6b _ _ _ _ _ _, c, v.r, v.y, v.l, v.m, a, b, _, _, rfl, hc3, ?_⟩
 exact ⟨c, v, a, b, xs, ys, n1, n2, x1, x2, _, rfl, hc3, ok, lx, ox, tw3, k.same sm3⟩
abbrev A2p : Stmt := (top 28)
abbrev Z8 : Stmt := (top 53)
def V9 (x1 x2 : Nm) : Int := J5h x1.p x2.p
def Y8 (x : Nm) (q : Int) : Int := x.f * A4 (x.p - q)
def D8y (x : Nm) (q : Int) : Int := if x.s = 1 then -Y8 x q else Y8 x q
def J9 (x1 x2 : Nm) : Int := Y8 x1 (V9 x1 x2) / Y8 x2 (V9 x1 x2)
theorem C1q {x : Nm} {q : Int} (ok : x.Ok) : 0 <= Y8 x q := Int.mul_nonneg ok.f0 (Int.le_of_lt (D4 _))
theorem A6s {x : Nm} {q : Int} (ok : x.Ok) : (if D8y x q < 0 then -D8y x q else D8y x q) = Y8 x q := by
 have h := C1q (q := q) ok
 unfold D8y
 by_cases hs : x.s = 1
 . rw [if_pos hs]
   split <;> omega
 rw [if_neg hs]
 split <;> omega
theorem D8w (x1 x2 : Nm) : V9 x1 x2 <= x1.p /\ V9 x1 x2 <= x2.p /\ (V9 x1 x2 = x1.p \/ V9 x1 x2 = x2.p) := by
 unfold V9 J5h
 split <;> omega
theorem B5m {x : Nm} {q : Int} (ok : x.Ok) (hf : x.f ≠ 0) (h : x.p - q <= 400) : SzL (Y8 x q) := by
 have tp := D4 (x.p - q)
 have f0 := ok.f0
 refine ⟨Int.mul_pos (by omega) tp, ?_⟩
 have e : A4 (x.p - q) <= A4 400 := V8 (by omega)
 have a : x.f * A4 (x.p - q) <= (10 ^ 60 - 1) * A4 400 := Int.mul_le_mul ok.f1 e (Int.le_of_lt tp) (by decide +kernel)
 exact Int.lt_of_le_of_lt a (by decide +kernel)
def C1s (CN : Addr) : Sp := fun vs H Q _ => ∃ n x, ∃ q : Int, vs = [.ref n, .int q] /\ V1 CN H n x /\ x.Ok /\ q <= x.p /\ x.p - q <= 400 /\ Q (.int (D8y x q)) H
theorem scWholeAt : C5 ["number", "power", "size"] Q29 (A2 A2p) := scK
theorem U1k {f f1 CN : Addr} {fd fd1 : FuncData} (D : Def K mg "whole_at" Q29 A2p f fd) (D_ten_to : Def K mg "ten_to" ["count"] A0q f1 fd1) (G_ten_to : sI P w K mg base 2 f1 fd1 ["count"] A2h) (N : Num K mg CN) : sI P w K mg base 3 f fd Q29 (C1s CN) := by
 refine D.F.okE scWholeAt (fun vs H Q E h => ?_) (fun X cdv A outer s H vs Q E hX hr hx h => ?_)
 . obtain ⟨n, x, q, rfl, _⟩ := h
   rfl
 subst hX
 obtain ⟨n, x, q, rfl, num, ok, h0, h1, k⟩ := h
 refine ⟨_, (A3 (D3 (i := 2) scWholeAt.nd rfl (Or.inl rfl) (A9 G5 (D6 (pv 0) rfl) (C9 D_ten_to G_ten_to hr hx (A0 (A9 J8 (D6 (pv 0) rfl) (pv 1)) A5)))) (A6 (B0 (V5 (C7 G2 (D6 (pv 0) rfl) A1 (C6 _)) (B1e A4m (pv 2)) (pv 2))))), ?_⟩
 obtain ⟨dn, en⟩ := id num
 have mul : IntMulOk x.f (A4 (x.p - q)) := by
   by_cases z : x.f = 0
   . rw [z]; exact A2u.ok (.inl ⟨by decide, by decide⟩)
   . exact B1c (G1m ok.f0 z ok.f1) (by omega)
 refine ⟨_, rfl, n, CN, dn, _, _, rfl, en, N.cl, N.n3, B6n _ _ _ _, _, rfl, n, CN, dn, _, _, rfl, en, N.cl, N.n4, A6u _ _ _ _, _, rfl, _, _, rfl, rfl, (x.p - q).toNat, (by rw [Int.toNat_of_nonneg (by omega)]; rfl), by omega, _, _, rfl, rfl, mul, ?_⟩
 unfold D8y at k
 refine ⟨_, rfl, n, CN, dn, _, _, rfl, en, N.cl, N.n2, D5e _ _ _ _, rfl, _, rfl, J1 (fun h => ?_) (fun h => ?_)⟩
 . rw [if_pos (V.int.inj h)] at k
   exact ⟨_, rfl, _, rfl, k⟩
 rw [if_neg fun z => h (congrArg V.int z)] at k
 exact ⟨_, rfl, k⟩
def B1s (CN : Addr) : Sp := fun vs H Q _ => ∃ n1 n2 x1 x2, vs = [.ref n1, .ref n2] /\ Two CN H n1 n2 x1 x2 /\ x1.Ok /\ x2.Ok /\ x2.f ≠ 0 /\ Q (.int (J9 x1 x2)) H
theorem scWholePart : C5 ["one", "other", "low"] Q4 (A2 Z8) := scK
theorem G1j {f f1 CN : Addr} {fd fd1 : FuncData} (D : Def K mg "whole_part" Q4 Z8 f fd) (D_whole_at : Def K mg "whole_at" Q29 A2p f1 fd1) (G_whole_at : sI P w K mg base 3 f1 fd1 Q29 (C1s CN)) (N : Num K mg CN) (O : Own mg) : sI P w K mg base 4 f fd Q4 (B1s CN) := by
 refine D.F.okE scWholePart (fun vs H Q E h => ?_) (fun X cdv A outer s H vs Q E hX hr hx h => ?_)
 . obtain ⟨n1, n2, x1, x2, rfl, _⟩ := h
   rfl
 subst hX
 obtain ⟨n1, n2, x1, x2, rfl, tw, o1, o2, hf, k⟩ := h
 refine ⟨_, (A3 (D3 (i := 2) scWholePart.nd rfl (Or.inl rfl) (J3 (A1y rfl) (by rfl) O.min_ boot_min (A0 (D6 (pv 0) rfl) (A0 (D6 (pv 1) rfl) A5)))) (A6 (B0 (A9 D8 (J3 A7a (by rfl) O.abs_ boot_abs (A0 (C9 D_whole_at G_whole_at hr hx (A0 (pv 0) (A0 (pv 2) A5))) A5)) (J3 A7a (by rfl) O.abs_ boot_abs (A0 (C9 D_whole_at G_whole_at hr hx (A0 (pv 1) (A0 (pv 2) A5))) A5)))))), ?_⟩
 obtain ⟨⟨d1, e1⟩, ⟨d2, e2⟩⟩ := id tw
 have p10 := o1.p0; have p11 := o1.p1; have p20 := o2.p0; have p21 := o2.p1
 obtain ⟨b1, b2, b3⟩ := D8w x1 x2
 refine ⟨_, rfl, n1, CN, d1, _, _, rfl, e1, N.cl, N.n4, A6u _ _ _ _, _, rfl, n2, CN, d2, _, _, rfl, e2, N.cl, N.n4, A6u _ _ _ _, _, _, rfl, ?_⟩
 show tSeq _ _ _ [sr n1, sr n2, si (V9 x1 x2)] H
 have hs := B5m (q := V9 x1 x2) o2 hf (by omega)
 refine ⟨_, rfl, _, rfl, n1, x1, V9 x1 x2, rfl, tw.1, o1, b1, by omega, _, rfl, _, rfl, _, rfl, n2, x2, V9 x1 x2, rfl, tw.2, o2, b2, by omega, _, rfl, _, _, rfl, rfl, ?_, ?_⟩
 . rw [A6s o2]
   exact ⟨hs.1, Nat.lt_trans hs.log (by decide)⟩
 rw [A6s o1, A6s o2]
 exact k
abbrev A0t : Stmt := (top 49)
def woR (v : Cv) (x1 x2 : Nm) (L : Int) : Nm × List Str :=
 if x1.k = .none \/ x2.k = .none then (A1q, [])
 else if A0a x1 x2 then
   (if J9 x1 x2 >= A4 v.r then (A1q, ["void"]) else if J9 x1 x2 = 0 then (A1c v (A0h x1.s x2.s) (A0u (x1.p - x2.p) 0), []) else C0g v (A0h x1.s x2.s) (J9 x1 x2) 1 0 L (A0u (x1.p - x2.p) 0))
 else V6g v x1 x2 0
def PreW (x1 x2 : Nm) (L : Int) : Prop := A0a x1 x2 -> J9 x1 x2 ≠ 0 -> A0w (J9 x1 x2) 1 (0 - L)
theorem G1v {x1 x2 : Nm} (o1 : x1.Ok) (o2 : x2.Ok) : 0 <= J9 x1 x2 /\ J9 x1 x2 < A4 500 := by
 have p10 := o1.p0; have p11 := o1.p1; have p20 := o2.p0; have p21 := o2.p1
 obtain ⟨b1, b2, b3⟩ := D8w x1 x2
 have w0 : 0 <= J9 x1 x2 := Int.ediv_nonneg (C1q o1) (C1q o2)
 have wl : J9 x1 x2 <= Y8 x1 (V9 x1 x2) := Int.ediv_le_self _ (C1q o1)
 refine ⟨w0, Int.lt_of_le_of_lt wl ?_⟩
 by_cases z : x1.f = 0
 . unfold Y8; rw [z, Int.zero_mul]; exact D4 _
 exact (B5m o1 z (by omega)).2
theorem max0 (i : Int) : (if (0 : Int) > i then 0 else i) = A0u i 0 := rfl
def C6r (CN CC CT : Addr) : Sp := fun vs H Q E => ∃ c v a b xs ys n1 n2 x1 x2 L, vs = [.ref c, .ref n1, .ref n2] /\ A0n CC H c v a b xs ys /\ v.Ok /\ xs.length <= 900 /\ Z1 xs = xs /\ Two CN H n1 n2 x1 x2 /\ x1.Ok /\ x2.Ok /\ PreW x1 x2 L /\ A1r CN CC CT H c v b xs ys (woR v x1 x2 L) Q E
theorem scWholeOver : C5 ["context", "one", "other", "whole", "sign", "ideal"] Q9 (A2 A0t) := scK
theorem G1k {f f1 f2 f3 f4 f5 f6 f7 f8 f9 g1 g2 fR CN CC CB CB' CT CW CR CE : Addr} {cw : Wy -> Addr} {fd fd1 fd2 fd3 fd4 fd5 fd6 fd7 fd8 fd9 gd1 gd2 fdR : FuncData} {d0 : Value} {gP : List Value -> List Value -> List Value} {vP : List V -> List V -> List V} (D : Def K mg "whole_over" Q9 A0t f fd) (D_need_numbers : Def K mg "need_numbers" ["things"] A3q f1 fd1) (G_need_numbers : sI P w K mg base 2 f1 fd1 ["things"] (C0h K CN CB'))
   (D_some_of_kind : Def K mg "some_of_kind" Q17 A7q f2 fd2) (G_some_of_kind : sI P w K mg base 1 f2 fd2 Q17 (C7k CN)) (D_has_plain_quotient : Def K mg "has_plain_quotient" Q4 C6p f3 fd3) (G_has_plain_quotient : sI P w K mg base 1 f3 fd3 Q4 (U0y CN))
   (D_odd_quotient : Def K mg "odd_quotient" Q28 C6m f4 fd4) (G_odd_quotient : sI P w K mg base 5 f4 fd4 Q28 (J9z CN CC CT)) (D_unlike_sign : Def K mg "unlike_sign" Q4 A3r f5 fd5) (G_unlike_sign : sI P w K mg base 1 f5 fd5 Q4 (C0j CN)) (D_nought : Def K mg "nought" Q7 A0j f6 fd6) (G_nought : sI P w K mg base 3 f6 fd6 Q7 (A4u CN CC))
   (D_settled : Def K mg "settled" Q13 A0b f7 fd7) (G_settled : sI P w K mg base 6 f7 fd7 Q13 (A4b CN CC CT CR)) (D_nothing : Def K mg "nothing" [] Z0 f8 fd8) (G_nothing : sI P w K mg base 3 f8 fd8 [] (A1w CN)) (D_void : Def K mg "void" ["context"] B1m f9 fd9) (G_void : sI P w K mg base 4 f9 fd9 ["context"] (C1u CN CC CT))
   (D_whole_part : Def K mg "whole_part" Q4 Z8 g1 gd1) (G_whole_part : sI P w K mg base 4 g1 gd1 Q4 (B1s CN)) (D_ten_to : Def K mg "ten_to" ["count"] A0q g2 gd2) (G_ten_to : sI P w K mg base 2 g2 gd2 ["count"] A2h)
   (C : B8c P w K mg base CC CB CT CW cw) (N : Num K mg CN) (MR : J5p P w K mg base CR fR fdR d0 gP vP) (R : G2r K mg CR CE) (O : Own mg) : sI P w K mg base 7 f fd Q9 (C6r CN CC CT) := by
 refine D.F.okE scWholeOver (fun vs H Q E h => ?_) (fun X cdv A outer s H vs Q E hX hr hx h => ?_)
 . obtain ⟨c, v, a, b, xs, ys, n1, n2, x1, x2, L, rfl, _⟩ := h
   rfl
 subst hX
 obtain ⟨c, v, a, b, xs, ys, n1, n2, x1, x2, L, rfl, hc, ok, lx, ox, tw, o1, o2, hL, k⟩ := h
 have V2 : U2 [.int 0] [d0] := .cons MR.r0 .nil
 refine ⟨_, (A3 (V7 (C9 D_need_numbers G_need_numbers hr hx (A0 (U4 (A0 (pv 1) (A0 (pv 2) A5))) A5))) (A3 (G4 (Y2 (C9 D_some_of_kind G_some_of_kind hr hx (A0 (U4 (A0 (pv 1) (A0 (pv 2) A5))) (A0 D5 A5)))) (A6 (B0 (A3f D_nothing G_nothing hr hx))) D0) (A3 (G4 (A4k (Y2 (C9 D_has_plain_quotient G_has_plain_quotient hr hx (A0 (pv 1) (A0 (pv 2) A5))))) (A6 (B0 (C9 D_odd_quotient G_odd_quotient hr hx (A0 (pv 0) (A0 (pv 1) (A0 (pv 2) (A0 A1 A5))))))) D0) (A3 (D3 (i := 3) scWholeOver.nd rfl (Or.inl rfl) (C9 D_whole_part G_whole_part hr hx (A0 (pv 1) (A0 (pv 2) A5)))) (A3 (G4 (C7 D9r (pv 3) (C9 D_ten_to G_ten_to hr hx (A0 (D6 (pv 0) rfl) A5)) (C6 _)) (A6 (B0 (C9 D_void G_void hr hx (A0 (pv 0) A5)))) D0) (A3 (D3 (i := 4) scWholeOver.nd rfl (Or.inl rfl) (C9 D_unlike_sign G_unlike_sign hr hx (A0 (pv 1) (A0 (pv 2) A5)))) (A3 (D3 (i := 5) scWholeOver.nd rfl (Or.inl rfl) (J3 (Y3 rfl) (by rfl) O.max_ boot_max (A0 (A9 J8 (D6 (pv 1) rfl) (D6 (pv 2) rfl)) (A0 A1 A5)))) (A3 (G4 (C7 G2 (pv 3) A1 (C6 _)) (A6 (B0 (C9 D_nought G_nought hr hx (A0 (pv 0) (A0 (pv 4) (A0 (pv 5) A5)))))) D0) (A6 (B0 (C9 D_settled G_settled hr hx (A0 (pv 0) (A0 (pv 4) (A0 (A6x MR.m MR.g hr R.g MR.b2 V2 hx (A0 (pv 3) (A0 A1 A5))) (A0 (pv 5) A5))))))))))))))), ?_⟩
 have z2 : 2 <= sizeLine := D7 (by decide)
 unfold woR at k
 refine ⟨_, rfl, _, rfl, z2, fun l nl => ?_⟩
 have u := C8.upd (o := .lst [.ref n1, .ref n2]) nl
 refine ⟨l, [(n1, x1), (n2, x2)], rfl, (A6v (tw.same u) A7).n, .inl ⟨A7, ?_⟩⟩
 refine ⟨_, rfl, _, rfl, z2, fun l2 nl2 => ?_⟩
 have u2 := u.trans (C8.upd (o := .lst [.ref n1, .ref n2]) nl2)
 refine ⟨l2, _, _, rfl, A6v (tw.same u2) A7, (by show 2 <= 1000; decide), fun H3 s3 => ⟨_, rfl, ?_⟩⟩
 rw [C8z]
 have sm3 := u2.trans s3
 have tw3 := tw.same sm3
 have hc3 := hc.same sm3
 refine J1 (fun hn => ?_) (fun hn => ?_)
 . rw [if_pos hn] at k
   exact ⟨rfl, fun n H' nn s' num => k.calm ox (sm3.trans s') hc num⟩
 rw [if_neg hn] at k
 refine ⟨_, rfl, _, rfl, n1, n2, x1, x2, rfl, tw3, _, rfl, ?_⟩
 by_cases hq : A0a x1 x2
 . rw [if_pos hq] at k
   rw [decide_eq_true hq]
   refine V3 ?_
   have r1 := ok.r1; have r2 := ok.r2
   obtain ⟨w0, w1⟩ := G1v o1 o2
   have us := C1h x1.s x2.s
   have p10 := o1.p0; have p11 := o1.p1; have p20 := o2.p0; have p21 := o2.p1
   obtain ⟨dx, ec⟩ := hc3.ins
   refine ⟨_, rfl, _, rfl, n1, n2, x1, x2, rfl, tw3, o1, o2, hq.2.2, ?_⟩
   refine ⟨_, rfl, _, rfl, c, CC, dx, _, _, rfl, ec, C.c.cl, C.c.n_room, A4t _ _ _ _ _ _, v.r.toNat, (by rw [Int.toNat_of_nonneg (by omega)]; rfl), by omega, _, _, rfl, rfl, _, rfl, J1 (fun h5 => ?_) (fun h5 => ?_)⟩
   . have h5 : J9 x1 x2 >= A4 v.r := h5
     rw [if_pos h5] at k
     exact ⟨_, rfl, c, v, a, b, xs, ys, rfl, hc3, lx, k.same sm3⟩
   have h5 : ¬ J9 x1 x2 >= A4 v.r := h5
   rw [if_neg h5] at k
   refine ⟨_, rfl, _, rfl, n1, n2, x1, x2, rfl, tw3, ?_⟩
   obtain ⟨⟨d1, e1⟩, ⟨d2, e2⟩⟩ := id tw3
   refine ⟨_, rfl, n1, CN, d1, _, _, rfl, e1, N.cl, N.n4, A6u _ _ _ _, _, rfl, n2, CN, d2, _, _, rfl, e2, N.cl, N.n4, A6u _ _ _ _, _, _, rfl, rfl, _, _, rfl, ?_⟩
   rw [max0]
   have mb : 0 <= A0u (x1.p - x2.p) 0 /\ A0u (x1.p - x2.p) 0 <= 400 := by unfold A0u; split <;> omega
   refine ⟨_, rfl, rfl, _, rfl, J1 (fun hf => ?_) (fun hf => ?_)⟩
   . have hf : J9 x1 x2 = 0 := V.int.inj hf
     rw [if_pos hf] at k
     exact ⟨_, rfl, _, rfl, _, rfl, c, v, a, b, xs, ys, A0h x1.s x2.s, A0u (x1.p - x2.p) 0, rfl, hc3, fun n H' nn s' num => k.calm ox (sm3.trans s') hc num⟩
   . have hf : ¬ J9 x1 x2 = 0 := fun z => hf (congrArg V.int z)
     rw [if_neg hf] at k
     have zl : SzL (J9 x1 x2) := ⟨by omega, w1⟩
     have hl := hL hq hf
     have ls := A8f zl.sz A4n hl
     have fn := C8q (v := v) ok ls.1 ls.2 (by decide) (by decide)
     refine ⟨_, rfl, _, rfl, _, rfl, fun q dq m1 m2 me => J5e m1 m2 me fun H4 s4 ra => ⟨rfl, ?_⟩⟩
     have sm4 := sm3.trans s4
     exact ⟨_, rfl, c, v, a, b, xs, ys, q, J9 x1 x2, 1, 0, L, A0h x1.s x2.s, A0u (x1.p - x2.p) 0, rfl, hc.same sm4, ok, lx, ra, zl.sz, A4n, hl, fn.1, fn.2, us.1, us.2, k.same sm4⟩
 rw [if_neg hq] at k
 rw [decide_eq_false hq]
 refine Z5 ?_
 exact ⟨_, rfl, _, rfl, _, rfl, c, v, a, b, xs, ys, n1, n2, x1, x2, 0, rfl, hc3, ok, lx, ox, tw3, k.same sm3⟩
abbrev A7x : Stmt := (top 50)
def C8g (CN CC CT : Addr) : Sp := fun vs H Q E => ∃ c v a b xs ys n x, ∃ L : Int, vs = [.ref c, .ref n] /\ A0n CC H c v a b xs ys /\ v.Ok /\ xs.length <= 900 /\ Z1 xs = xs /\ V1 CN H n x /\ 0 <= x.s /\ x.s <= 1 /\ 0 <= x.f /\ x.f < A4 500 /\ -200 <= x.p /\ x.p <= 200 /\ (x.k = .plain -> x.f ≠ 0 -> A0w x.f 1 (x.p - L)) /\ A1r CN CC CT H c v b xs ys (B7r v x L) Q E
def Z9 (x1 x2 : Nm) : Nm := ⟨.plain, x1.s, Y8 x1 (V9 x1 x2) - J9 x1 x2 * Y8 x2 (V9 x1 x2), V9 x1 x2⟩
def C8c (x1 x2 : Nm) : Nm := if x2.k = .end_ then x1 else Z9 x1 x2
def reR (v : Cv) (x1 x2 : Nm) (L : Int) : Nm × List Str :=
 if x1.k = .none \/ x2.k = .none then (A1q, [])
 else if x1.k = .end_ then (A1q, ["void"])
 else if x2.k = .plain /\ x2.f = 0 then (A1q, ["void"])
 else if x2.k = .end_ then B7r v x1 L
 else if J9 x1 x2 >= A4 v.r then (A1q, ["void"]) else B7r v (Z9 x1 x2) L
def Y7x (x1 x2 : Nm) (L : Int) : Prop := (C8c x1 x2).k = .plain -> (C8c x1 x2).f ≠ 0 -> A0w (C8c x1 x2).f 1 ((C8c x1 x2).p - L)
theorem G1y {x1 x2 : Nm} (o1 : x1.Ok) (o2 : x2.Ok) (hf : x2.f ≠ 0) : 0 <= (Z9 x1 x2).f /\ (Z9 x1 x2).f < A4 500 /\ -200 <= (Z9 x1 x2).p /\ (Z9 x1 x2).p <= 200 /\ (Z9 x1 x2).f = Y8 x1 (V9 x1 x2) % Y8 x2 (V9 x1 x2) := by
 have p10 := o1.p0; have p11 := o1.p1; have p20 := o2.p0; have p21 := o2.p1
 obtain ⟨b1, b2, b3⟩ := D8w x1 x2
 have hs := B5m (q := V9 x1 x2) o2 hf (by omega)
 have e : Y8 x1 (V9 x1 x2) - J9 x1 x2 * Y8 x2 (V9 x1 x2) = Y8 x1 (V9 x1 x2) % Y8 x2 (V9 x1 x2) := by
   unfold J9
   rw [Int.emod_def, Int.mul_comm]
 have s0 : 0 < Y8 x2 (V9 x1 x2) := hs.1
 have m0 := Int.emod_nonneg (Y8 x1 (V9 x1 x2)) (Int.ne_of_gt s0)
 have m1 := Int.emod_lt_of_pos (Y8 x1 (V9 x1 x2)) s0
 have h2 := hs.2
 unfold Z9
 dsimp only
 rw [e]
 exact ⟨m0, by omega, by omega, by omega, rfl⟩
theorem V6v : C5 Q12 Q12 (A2 A4q) := scK
theorem V7y {f f1 f2 f3 fI CN CC CB CB' CT CW CR CE : Addr} {cw : Wy -> Addr} {fd fd1 fd2 fd3 fdI : FuncData} {d0 : Value} {gP : List Value -> List Value -> List Value} {vP : List V -> List V -> List V} (D : Def K mg "rounded" Q12 A4q f fd)
   (D_need_number : Def K mg "need_number" ["thing"] A4p f1 fd1) (G_need_number : sI P w K mg base 1 f1 fd1 ["thing"] (C0f K CN CB')) (D_nought : Def K mg "nought" Q7 A0j f2 fd2) (G_nought : sI P w K mg base 3 f2 fd2 Q7 (A4u CN CC))
   (D_settled : Def K mg "settled" Q13 A0b f3 fd3) (G_settled : sI P w K mg base 6 f3 fd3 Q13 (A4b CN CC CT CR)) (MR : J5p P w K mg base CR fI fdI d0 gP vP) (R : G2r K mg CR CE) (N : Num K mg CN) :
   sI P w K mg base 7 f fd Q12 (C8g CN CC CT) := by
 refine D.F.okE V6v (fun vs H Q E h => ?_) (fun X cdv A outer s H vs Q E hX hr hx h => ?_)
 . obtain ⟨c, v, a, b, xs, ys, n, x, L, rfl, _⟩ := h
   rfl
 subst hX
 obtain ⟨c, v, a, b, xs, ys, n, x, L, rfl, hc, ok, lx, ox, num, s0, s1, f0, f1, p0, p1, hL, k⟩ := h
 refine ⟨_, (A3 (V7 (C9 D_need_number G_need_number hr hx (A0 (pv 1) A5))) (A3 (G4 (C7 C9h (D6 (pv 1) rfl) D5 (C6 _)) (A6 (B0 (pv 1))) D0) (A3 (G4 (C7 G2 (D6 (pv 1) rfl) A1 (C6 _)) (A6 (B0 (C9 D_nought G_nought hr hx (A0 (pv 0) (A0 (D6 (pv 1) rfl) (A0 (D6 (pv 1) rfl) A5)))))) D0) (A6 (B0 (C9 D_settled G_settled hr hx (A0 (pv 0) (A0 (D6 (pv 1) rfl) (A0 (A6x MR.m MR.g hr R.g MR.b3 .nil hx (A0 (D6 (pv 1) rfl) (A0 A1 (A0 (D6 (pv 1) rfl) A5)))) (A0 (D6 (pv 1) rfl) A5)))))))))), ?_⟩
 obtain ⟨dn, en⟩ := id num
 refine ⟨_, rfl, _, rfl, Or.inl ⟨n, _, _, _, _, rfl, num, ?_⟩⟩
 refine ⟨_, rfl, n, CN, dn, _, _, rfl, en, N.cl, N.n1, B1u _ _ _ _, rfl, _, rfl, ?_⟩
 by_cases hk : x.k = .plain
 . have eR : B7r v x L = if x.f = 0 then (⟨.plain, x.s, 0, J5h (A0u x.p (v.l - v.r + 1)) v.m⟩, []) else C0g v x.s x.f 1 x.p L x.p := by unfold B7r; rw [hk]
   rw [eR] at k
   refine C8r (by rw [hk]; rfl) ⟨_, rfl, n, CN, dn, _, _, rfl, en, N.cl, N.n3, B6n _ _ _ _, rfl, _, rfl, J1 (fun hf => ?_) (fun hf => ?_)⟩
   . have hf : x.f = 0 := V.int.inj hf
     rw [if_pos hf] at k
     exact ⟨_, rfl, _, rfl, n, CN, dn, _, _, rfl, en, N.cl, N.n2, D5e _ _ _ _, _, rfl, n, CN, dn, _, _, rfl, en, N.cl, N.n4, A6u _ _ _ _, c, v, a, b, xs, ys, x.s, x.p, rfl, hc, fun n' H' nn s' num' => k.calm ox s' hc num'⟩
   . have hf : ¬ x.f = 0 := fun z => hf (congrArg V.int z)
     rw [if_neg hf] at k
     have zl : SzL x.f := ⟨by omega, f1⟩
     have z1 : Sz x.f := zl.sz
     have hl := hL hk hf
     have ls := A8f z1 A4n hl
     have fn := C8q (v := v) ok ls.1 ls.2 (by omega) (by omega)
     refine ⟨_, rfl, _, rfl, n, CN, dn, _, _, rfl, en, N.cl, N.n2, D5e _ _ _ _, _, rfl, n, CN, dn, _, _, rfl, en, N.cl, N.n3, B6n _ _ _ _, _, rfl, n, CN, dn, _, _, rfl, en, N.cl, N.n4, A6u _ _ _ _, fun r dr m1 m2 me => J5e m1 m2 me fun H1 s1' ra => ⟨rfl, ?_⟩⟩
     obtain ⟨dn1, en1⟩ := num.same s1'
     exact ⟨_, rfl, n, CN, dn1, _, _, rfl, en1, N.cl, N.n4, A6u _ _ _ _, c, v, a, b, xs, ys, r, x.f, 1, x.p, L, x.s, x.p, rfl, hc.same s1', ok, lx, ra, z1, A4n, hl, fn.1, fn.2, s0, s1, k.same s1'⟩
 have eR : B7r v x L = (x, []) := by
   unfold B7r
   cases hx : x.k with
   | plain => exact absurd hx hk
   | end_ => rfl
   | none => rfl
 rw [eR] at k
 exact C9z (fun z => hk (eqS (b := .plain) z)) ⟨_, rfl, k.calm ox (C8.refl _) hc num⟩
def Y7y (CN CC CT : Addr) : Sp := fun vs H Q E => ∃ c v a b xs ys n1 n2 x1 x2 L, vs = [.ref c, .ref n1, .ref n2] /\ A0n CC H c v a b xs ys /\ v.Ok /\ xs.length <= 900 /\ Z1 xs = xs /\ Two CN H n1 n2 x1 x2 /\ x1.Ok /\ x2.Ok /\ Y7x x1 x2 L /\ A1r CN CC CT H c v b xs ys (reR v x1 x2 L) Q E
theorem scRestOf : C5 ["context", "one", "other", "whole", "low", "left"] Q9 (A2 A7x) := scK
theorem V6t {f f1 f2 f3 f4 f5 f6 f7 f8 fI CN CC CB CB' CT CW : Addr} {cw : Wy -> Addr} {fd fd1 fd2 fd3 fd4 fd5 fd6 fd7 fd8 fdI : FuncData} (D : Def K mg "rest_of" Q9 A7x f fd) (D_need_numbers : Def K mg "need_numbers" ["things"] A3q f1 fd1) (G_need_numbers : sI P w K mg base 2 f1 fd1 ["things"] (C0h K CN CB'))
   (D_some_of_kind : Def K mg "some_of_kind" Q17 A7q f2 fd2) (G_some_of_kind : sI P w K mg base 1 f2 fd2 Q17 (C7k CN)) (D_nothing : Def K mg "nothing" [] Z0 f3 fd3) (G_nothing : sI P w K mg base 3 f3 fd3 [] (A1w CN))
   (D_void : Def K mg "void" ["context"] B1m f4 fd4) (G_void : sI P w K mg base 4 f4 fd4 ["context"] (C1u CN CC CT)) (D_rounded : Def K mg "rounded" Q12 A4q f5 fd5) (G_rounded : sI P w K mg base 7 f5 fd5 Q12 (C8g CN CC CT))
   (D_whole_part : Def K mg "whole_part" Q4 Z8 f6 fd6) (G_whole_part : sI P w K mg base 4 f6 fd6 Q4 (B1s CN)) (D_ten_to : Def K mg "ten_to" ["count"] A0q f7 fd7) (G_ten_to : sI P w K mg base 2 f7 fd7 ["count"] A2h) (D_whole_at : Def K mg "whole_at" Q29 A2p f8 fd8) (G_whole_at : sI P w K mg base 3 f8 fd8 Q29 (C1s CN))
   (C : B8c P w K mg base CC CB CT CW cw) (N : Num K mg CN) (M : C0n P w K mg base CN fI fdI) (O : Own mg) : sI P w K mg base 8 f fd Q9 (Y7y CN CC CT) := by
 refine D.F.okE scRestOf (fun vs H Q E h => ?_) (fun X cdv A outer s H vs Q E hX hr hx h => ?_)
 . obtain ⟨c, v, a, b, xs, ys, n1, n2, x1, x2, L, rfl, _⟩ := h
   rfl
 subst hX
 obtain ⟨c, v, a, b, xs, ys, n1, n2, x1, x2, L, rfl, hc, ok, lx, ox, tw, o1, o2, hL, k⟩ := h
 refine ⟨_, (A3 (V7 (C9 D_need_numbers G_need_numbers hr hx (A0 (U4 (A0 (pv 1) (A0 (pv 2) A5))) A5))) (A3 (G4 (Y2 (C9 D_some_of_kind G_some_of_kind hr hx (A0 (U4 (A0 (pv 1) (A0 (pv 2) A5))) (A0 D5 A5)))) (A6 (B0 (A3f D_nothing G_nothing hr hx))) D0) (A3 (G4 (PW.pt (D8x (C7 G2 (D6 (pv 1) rfl) D5 (C6 _)) (C1v (PW.pt (C1t (C7 G2 (D6 (pv 2) rfl) D5 (C6 _)) (B5p (C7 G2 (D6 (pv 2) rfl) A1 (C6 _)))))))) (A6 (B0 (C9 D_void G_void hr hx (A0 (pv 0) A5)))) D0) (A3 (G4 (C7 G2 (D6 (pv 2) rfl) D5 (C6 _)) (A6 (B0 (C9 D_rounded G_rounded hr hx (A0 (pv 0) (A0 (pv 1) A5))))) D0) (A3 (D3 (i := 3) scRestOf.nd rfl (Or.inl rfl) (C9 D_whole_part G_whole_part hr hx (A0 (pv 1) (A0 (pv 2) A5)))) (A3 (G4 (C7 D9r (pv 3) (C9 D_ten_to G_ten_to hr hx (A0 (D6 (pv 0) rfl) A5)) (C6 _)) (A6 (B0 (C9 D_void G_void hr hx (A0 (pv 0) A5)))) D0) (A3 (D3 (i := 4) scRestOf.nd rfl (Or.inl rfl) (J3 (A1y rfl) (by rfl) O.min_ boot_min (A0 (D6 (pv 1) rfl) (A0 (D6 (pv 2) rfl) A5)))) (A3 (D3 (i := 5) scRestOf.nd rfl (Or.inl rfl) (A9 J8 (J3 A7a (by rfl) O.abs_ boot_abs (A0 (C9 D_whole_at G_whole_at hr hx (A0 (pv 1) (A0 (pv 4) A5))) A5)) (A9 G5 (pv 3) (J3 A7a (by rfl) O.abs_ boot_abs (A0 (C9 D_whole_at G_whole_at hr hx (A0 (pv 2) (A0 (pv 4) A5))) A5))))) (A6 (B0 (C9 D_rounded G_rounded hr hx (A0 (pv 0) (A0 (A6x M.m (A8.up M.g) hr N.g M.b .nil hx (A0 D5 (A0 (D6 (pv 1) rfl) (A0 (pv 5) (A0 (pv 4) A5))))) A5))))))))))))), ?_⟩
 have z2 : 2 <= sizeLine := D7 (by decide)
 unfold reR at k
 refine ⟨_, rfl, _, rfl, z2, fun l nl => ?_⟩
 have u := C8.upd (o := .lst [.ref n1, .ref n2]) nl
 refine ⟨l, [(n1, x1), (n2, x2)], rfl, (A6v (tw.same u) A7).n, .inl ⟨A7, ?_⟩⟩
 refine ⟨_, rfl, _, rfl, z2, fun l2 nl2 => ?_⟩
 have u2 := u.trans (C8.upd (o := .lst [.ref n1, .ref n2]) nl2)
 refine ⟨l2, _, _, rfl, A6v (tw.same u2) A7, (by show 2 <= 1000; decide), fun H3 s3 => ⟨_, rfl, ?_⟩⟩
 rw [C8z]
 have sm3 := u2.trans s3
 have tw3 := tw.same sm3
 have hc3 := hc.same sm3
 obtain ⟨⟨d1, e1⟩, ⟨d2, e2⟩⟩ := id tw3
 obtain ⟨dx, ec⟩ := hc3.ins
 refine J1 (fun hn => ?_) (fun hn => ?_)
 . rw [if_pos hn] at k
   exact ⟨rfl, fun n H' nn s' num => k.calm ox (sm3.trans s') hc num⟩
 rw [if_neg hn] at k
 have hn1 : x1.k ≠ .none := fun z => hn (.inl z)
 have hn2 : x2.k ≠ .none := fun z => hn (.inr z)
 have p10 := o1.p0; have p11 := o1.p1; have p20 := o2.p0; have p21 := o2.p1
 have r1 := ok.r1; have r2 := ok.r2
 obtain ⟨lb1, lb2, lb3⟩ := D8w x1 x2
 have big : (10 : Int) ^ 60 <= A4 500 := by decide +kernel
 refine ⟨_, rfl, n1, CN, d1, _, _, rfl, e1, N.cl, N.n1, B1u _ _ _ _, rfl, _, rfl, J1 (fun h1 => Z5 ?_) (fun h1 => ?_)⟩
 . have h1 : x1.k = .end_ := eqS (b := .end_) h1
   rw [if_pos h1] at k
   exact ⟨_, rfl, c, v, a, b, xs, ys, rfl, hc3, lx, k.same sm3⟩
 have h1 : x1.k ≠ .end_ := neS (b := .end_) h1
 rw [if_neg h1] at k
 have p1 : x1.k = .plain := by
   cases h : x1.k with
   | plain => rfl
   | end_ => exact absurd h h1
   | none => exact absurd h hn1
 have f11 := o1.f1
 refine ⟨_, rfl, n2, CN, d2, _, _, rfl, e2, N.cl, N.n1, B1u _ _ _ _, rfl, _, rfl, J1 (fun h2 => ?_) (fun h2 => ?_)⟩
 . have h2 : x2.k = .plain := eqS (b := .plain) h2
   refine ⟨_, rfl, n2, CN, d2, _, _, rfl, e2, N.cl, N.n3, B6n _ _ _ _, rfl, _, rfl, J1 (fun h3 => ?_) (fun h3 => ?_)⟩
   . have h3 : x2.f = 0 := V.int.inj h3
     rw [if_pos ⟨h2, h3⟩] at k
     exact ⟨_, rfl, c, v, a, b, xs, ys, rfl, hc3, lx, k.same sm3⟩
   have h3 : ¬ x2.f = 0 := fun z => h3 (congrArg V.int z)
   have h4 : x2.k ≠ .end_ := fun z => by rw [h2] at z; cases z
   rw [if_neg (fun z => h3 z.2), if_neg h4] at k
   refine ⟨_, rfl, n2, CN, d2, _, _, rfl, e2, N.cl, N.n1, B1u _ _ _ _, rfl, _, rfl, U0 (fun z => h4 (eqS (b := .end_) z)) ?_⟩
   refine ⟨_, rfl, _, rfl, n1, n2, x1, x2, rfl, tw3, o1, o2, h3, ?_⟩
   refine ⟨_, rfl, _, rfl, c, CC, dx, _, _, rfl, ec, C.c.cl, C.c.n_room, A4t _ _ _ _ _ _, v.r.toNat, (by rw [Int.toNat_of_nonneg (by omega)]; rfl), by omega, _, _, rfl, rfl, _, rfl, J1 (fun h5 => ?_) (fun h5 => ?_)⟩
   . have h5 : J9 x1 x2 >= A4 v.r := h5
     rw [if_pos h5] at k
     exact ⟨_, rfl, c, v, a, b, xs, ys, rfl, hc3, lx, k.same sm3⟩
   have h5 : ¬ J9 x1 x2 >= A4 v.r := h5
   rw [if_neg h5] at k
   have t24 := V2s r2
   obtain ⟨g0, g1, g2, g3, g4⟩ := G1y o1 o2 h3
   have hs := B5m (q := V9 x1 x2) o2 h3 (by omega)
   have w0 : 0 <= J9 x1 x2 := Int.ediv_nonneg (C1q o1) (C1q o2)
   have mul : IntMulOk (J9 x1 x2) (Y8 x2 (V9 x1 x2)) := by
     by_cases z : J9 x1 x2 = 0
     . rw [z]; exact A2u.ok (.inl ⟨by decide, by decide⟩)
     . have zs : Sz (J9 x1 x2) := ⟨by omega, Int.lt_of_lt_of_le (show J9 x1 x2 < 10 ^ 24 by omega) (by decide +kernel)⟩
       exact IntMulOk.of_bits (C7m zs) (C7m hs.sz)
   refine ⟨_, rfl, n1, CN, d1, _, _, rfl, e1, N.cl, N.n4, A6u _ _ _ _, _, rfl, n2, CN, d2, _, _, rfl, e2, N.cl, N.n4, A6u _ _ _ _, _, _, rfl, ?_⟩
   show tSeq _ _ _ [sr c, sr n1, sr n2, si (J9 x1 x2), si (V9 x1 x2), none] H3
   refine ⟨_, rfl, _, rfl, n1, x1, V9 x1 x2, rfl, tw3.1, o1, lb1, by omega, _, rfl, _, rfl, _, rfl, _, rfl, n2, x2, V9 x1 x2, rfl, tw3.2, o2, lb2, by omega, _, rfl, _, _, rfl, rfl, (by rw [A6s o2]; exact mul), _, _, rfl, rfl, ?_⟩
   rw [A6s o1, A6s o2]
   refine ⟨_, rfl, _, rfl, n1, CN, d1, _, _, rfl, e1, N.cl, N.n2, D5e _ _ _ _, _, rfl, _, rfl, ?_⟩
   refine C8y (Q := fun u H' => C8g CN CC CT ([V.ref c, u] ++ []) H' Q (fun C d H' => E C d H')) fun n' H4 nn s4 num' => ?_
   exact ⟨c, v, a, b, xs, ys, n', Z9 x1 x2, L, rfl, hc3.same s4, ok, lx, ox, num', o1.s0, o1.s1, g0, g1, g2, g3, (by have := hL; unfold Y7x C8c at this; rw [if_neg h4] at this; exact this), k.same (sm3.trans s4)⟩
 have h2 : x2.k ≠ .plain := neS (b := .plain) h2
 have h4 : x2.k = .end_ := by
   cases h : x2.k with
   | plain => exact absurd h h2
   | end_ => rfl
   | none => exact absurd h hn2
 rw [if_neg (fun z => h2 z.1), if_pos h4] at k
 refine V3 ⟨_, rfl, n2, CN, d2, _, _, rfl, e2, N.cl, N.n1, B1u _ _ _ _, rfl, _, rfl, A0p (by rw [h4]; rfl) ?_⟩
 exact ⟨_, rfl, _, rfl, c, v, a, b, xs, ys, n1, x1, L, rfl, hc3, ok, lx, ox, tw3.1, o1.s0, o1.s1, o1.f0, by omega, p10, p11, (by have := hL; unfold Y7x C8c at this; rw [if_pos h4] at this; exact this), k.same sm3⟩
abbrev B7z : Stmt := (top 31)
def V3h : Sp := fun vs H Q _ => ∃ n m : Int, vs = [.int n, .int m] /\ -m <= n /\ n <= m /\ Q .non H
theorem A0jk : C5 Q35 Q35 (A2 B7z) := scK
theorem Y4w {f f1 CB : Addr} {fd fd1 : FuncData} (D : Def K mg "need_count" Q35 B7z f fd) (D1 : Def K mg "is_between" Q6 C8e f1 fd1) (O : Own mg) (T : Kit K) (B : Err K mg "BadCount" CB) : sI P w K mg base 2 f fd Q35 V3h := by
 have G1 := U1e (P := P) (w := w) (base := base) D1 O T
 refine D.F.okE A0jk (fun vs H Q E h => ?_) (fun X cdv A outer s H vs Q E hX hr hx h => ?_)
 . obtain ⟨n, m, rfl, _⟩ := h
   rfl
 subst hX
 obtain ⟨n, m, rfl, h1, h2, k⟩ := h
 refine ⟨_, (A6 (G4 (A4k (Y2 (C9 D1 G1 hr hx (A0 (pv 0) (A0 (B1e A4m (pv 1)) (A0 (pv 1) A5)))))) (A6 (A2n (by rfl) B.g B.q PySem.F.excBase_ValueError hr.hd hx (A0 (G1c (.cons .lit (.cons (.int (pv 1)) (.cons .lit (.cons (.int (pv 1)) .nil))))) A5))) D0)), ?_⟩
 exact ⟨_, rfl, _, rfl, _, rfl, _, rfl, _, _, _, rfl, .inl ⟨⟨n, rfl, h1, h2⟩, _, rfl, V3 k⟩⟩
abbrev C9j : Stmt := (top 77)
def Y6g (K : Frag) : Sp := fun vs H Q _ => ∃ a ns k, vs = [.ref a, .int k] /\ SqL K H a ((ns : List Int).map V.int) /\ 0 <= k /\ ∀ i, Q (.int i) H
theorem A0rx : C5 Q36 Q36 (A2 C9j) := scK
theorem A0gb {f : Addr} {fd : FuncData} (D : Def K mg "_law_cell_at" Q36 C9j f fd) (O : Own mg) : sI P w K mg base 1 f fd Q36 (Y6g K) := by
 refine A8.up (D.F.ok A0rx (fun vs H Q E h => ?_) (fun cdv A outer s H vs Q E hr h => ?_))
 . obtain ⟨a, ns, k, rfl, _⟩ := h
   rfl
 obtain ⟨a, ns, i, rfl, hs, h0, k⟩ := h
 refine ⟨_, (A3 (G4 (C7 B6s (pv 1) (J3 G1x (by rfl) O.len_ PySem.boot_len (A0 (pv 0) A5)) (C6 _)) (A6 (B0 (D9 U6 (pv 0) (pv 1) (fun _ _ => rfl)))) D0) (A6 (B0 A1))), ?_⟩
 refine ⟨_, rfl, _, rfl, a, _, rfl, .inl hs, _, _, rfl, rfl, _, rfl, ?_⟩
 refine J1 (fun hlt => ?_) (fun _ => k 0)
 rw [List.length_map] at hlt
 obtain ⟨j, rfl⟩ := Int.eq_ofNat_of_zero_le h0
 have hj : j < ns.length := by omega
 exact ⟨_, rfl, _, rfl, a, _, _, _, rfl, rfl, hs, B7 (v := V.int ns[j]) (by simp [hj]), k _⟩
abbrev A7r : Stmt := (top 78)
def C7n : Sp := fun vs H Q _ => ∃ c k, vs = [.int c, .int k] /\ 0 <= k /\ k <= 100 /\ ∀ m, 0 <= m -> m < 2147483629 -> Q (.int m) H
theorem A0hp : C5 Q18 Q18 (A2 A7r) := scK
theorem Y6w {f : Addr} {fd : FuncData} (D : Def K mg "_law_mixed" Q18 A7r f fd) : sI P w K mg base 1 f fd Q18 C7n := by
 refine A8.up (D.F.ok A0hp (fun vs H Q E h => ?_) (fun cdv A outer s H vs Q E hr h => ?_))
 . obtain ⟨c, k, rfl, _⟩ := h
   rfl
 obtain ⟨c, i, rfl, h0, h1, k⟩ := h
 refine ⟨_, (A6 (B0 (A9 J0 (A9 G5 (A9 J0 (A9 J4 (A9 J4 (A9 G5 (pv 0) (A9 J4 A1 (A9 G5 (A9 G5 A1 (pv 1)) (pv 1)))) (A9 G5 A1 (pv 1))) A1) A1) A1) A1))), ?_⟩
 have q0 : (0 : Int) <= 2 * i * i := Int.mul_nonneg (by omega) h0
 have q1 : 2 * i * i <= 200 * 100 := Int.mul_le_mul (by omega) h1 h0 (by decide)
 have m1 : IntMulOk 2 i := A2u.ok (.inl ⟨by decide, by decide⟩)
 have m2 : IntMulOk (2 * i) i := A2u.ok (.inr ⟨by omega, by omega⟩)
 have m3 : IntMulOk c (48271 + 2 * i * i) := A2u.ok (.inr ⟨by omega, by omega⟩)
 have m4 : IntMulOk 69621 i := A2u.ok (.inl ⟨by decide, by decide⟩)
 have m5 : ∀ z : Int, IntMulOk z 69621 := fun z => A2u.ok (.inr ⟨by decide, by decide⟩)
 refine ⟨_, rfl, _, rfl, _, _, rfl, rfl, m1, _, rfl, _, _, rfl, rfl, m2, _, _, rfl, rfl, _, _, rfl, rfl, m3, _, rfl, _, _, rfl, rfl, m4, _, _, rfl, rfl, _, _, rfl, rfl, _, _, rfl, rfl, (by show (0 : Int) < 2147483647; decide), _, _, rfl, rfl, m5 _, _, _, rfl, rfl, (by show (0 : Int) < 2147483629; decide), ?_⟩
 exact k _ (Int.emod_nonneg _ (by decide)) (Int.emod_lt_of_pos _ (by decide))
abbrev B0y : Stmt := (top 79)
abbrev C9e : Stmt := (top 80)
abbrev A8d : Stmt := (top 81)
abbrev C8f : Stmt := (top 82)
abbrev A7z : Stmt := (top 83)
theorem dv {n : Int} (h : 0 < n) (h2 : n.natAbs.log2 < 9000) : (0 : Int) < n /\ n.natAbs.log2 < 9000 := ⟨h, h2⟩
structure C7s (r l m : Int) : Prop where
 r1 : 1 <= r
 r2 : r <= 24
 l1 : -60 <= l
 l2 : l <= 0
 m1 : 0 <= m
 m2 : m <= 60
theorem at3 (a b c n : Int) : ∃ v, (v = a \/ v = b \/ v = c) /\ atI ([.int a, .int b, .int c] : List V) (n % 3) = some (.int v) := by
 rcases (by omega : n % 3 = 0 \/ n % 3 = 1 \/ n % 3 = 2) with h | h | h
 . exact ⟨a, .inl rfl, by rw [h]; exact B7 (j := 0) rfl⟩
 . exact ⟨b, .inr (.inl rfl), by rw [h]; exact B7 (j := 1) rfl⟩
 exact ⟨c, .inr (.inr rfl), by rw [h]; exact B7 (j := 2) rfl⟩
theorem at4 (a b c d n : Int) : ∃ v, (v = a \/ v = b \/ v = c \/ v = d) /\ atI ([.int a, .int b, .int c, .int d] : List V) (n % 8 / 2) = some (.int v) := by
 rcases (by omega : n % 8 / 2 = 0 \/ n % 8 / 2 = 1 \/ n % 8 / 2 = 2 \/ n % 8 / 2 = 3) with h | h | h | h
 . exact ⟨a, .inl rfl, by rw [h]; exact B7 (j := 0) rfl⟩
 . exact ⟨b, .inr (.inl rfl), by rw [h]; exact B7 (j := 1) rfl⟩
 . exact ⟨c, .inr (.inr (.inl rfl)), by rw [h]; exact B7 (j := 2) rfl⟩
 exact ⟨d, .inr (.inr (.inr rfl)), by rw [h]; exact B7 (j := 3) rfl⟩
theorem at8 (n : Int) : ∃ y : Wy, atI ([.str "down", .str "up", .str "floor", .str "ceiling", .str "half up", .str "half down", .str "half even", .str "five up"] : List V) (n % 8) = some (.str y.name) := by
 rcases (by omega : n % 8 = 0 \/ n % 8 = 1 \/ n % 8 = 2 \/ n % 8 = 3 \/ n % 8 = 4 \/ n % 8 = 5 \/ n % 8 = 6 \/ n % 8 = 7) with h | h | h | h | h | h | h | h <;> rw [h]
 . exact ⟨.down, B7 (j := 0) rfl⟩
 . exact ⟨.up, B7 (j := 1) rfl⟩
 . exact ⟨.floor, B7 (j := 2) rfl⟩
 . exact ⟨.ceiling, B7 (j := 3) rfl⟩
 . exact ⟨.halfUp, B7 (j := 4) rfl⟩
 . exact ⟨.halfDown, B7 (j := 5) rfl⟩
 . exact ⟨.halfEven, B7 (j := 6) rfl⟩
 exact ⟨.fiveUp, B7 (j := 7) rfl⟩
theorem A0sg {a b : Int} (h : a < b) (h0 : 0 <= a) : A4 a < A4 b := by
 unfold A4
 exact Int.ofNat_lt.mpr ((Nat.pow_lt_pow_iff_right (by decide)).mpr (by omega))
theorem V3y {e : Int} (h : e <= 1500) : (0 : Int) < A4 e /\ (A4 e).natAbs.log2 < 9000 := by
 have := J9v A4n h
 rw [Int.one_mul] at this
 exact ⟨D4 e, this⟩
theorem U1n {f : Int} (h0 : 0 <= f) (h : f < A4 60) : Builtin.Int.intBits f <= 2 ^ 20 := by
 obtain ⟨n, rfl⟩ := Int.eq_ofNat_of_zero_le h0
 refine C0e (k := 200) ?_ (by decide)
 have : n < 10 ^ 60 := Int.ofNat_lt.mp h
 exact Nat.lt_trans this (by decide +kernel)
def B7n : Sp := fun vs H Q _ => ∃ p : Int, vs = [.int p] /\ -(2 ^ 62) <= p /\ p < 2 ^ 62 /\ Q (.int (A4 p)) H
theorem scLTen : C5 ["_law_power_here", "_law_found", "_law_turn"] Q10 (A2 B0y) := scK
theorem A0gf {f : Addr} {fd : FuncData} (D : Def K mg "_law_ten" Q10 B0y f fd) (O : Own mg) : sI P w K mg base 1 f fd Q10 B7n := by
 refine D.F.okE scLTen (fun vs H Q E h => ?_) (fun X cdv A outer s H vs Q E hX hr hx h => ?_)
 . obtain ⟨p, rfl, _⟩ := h
   rfl
 subst hX
 obtain ⟨p, rfl, p0, p1, k⟩ := h
 refine ⟨_, (A3 (B5 (D3 (i := 1) scLTen.nd rfl (Or.inl rfl) A1)) (A3 (B5 (B7y PassesOwn.leaving rfl (B5u rfl O.range_ (A0 (pv 0) A5)) (J7 (i := 2) scLTen.nd rfl (Or.inl rfl)) (A6 (B5 (D3 (i := 1) scLTen.nd rfl (Or.inl rfl) (A9 G5 (pv 1) A1)))))) (A6 (B0 (pv 1))))), ?_⟩
 refine ⟨fun σ' H' => H' = H /\ σ' = [si p, si 1, none], ⟨rfl, rfl⟩, ?_⟩
 rintro σ' H1 ⟨rfl, rfl⟩
 refine ⟨fun σ' H' => H' = H1 /\ ∃ v, σ' = [si p, si (A4 p), v], ?_, ?_⟩
 . refine ⟨_, rfl, p, rfl, p0, p1, B5v (n := p.toNat) (fun i σ' H' => H' = H1 /\ ∃ v, σ' = [si p, si ((10 ^ i : Nat) : Int), v]) ⟨rfl, none, rfl⟩ ?_ ?_⟩
   . rintro i σ' H' hi ⟨rfl, v, rfl⟩
     refine ⟨_, ?_, fun _ _ h => h⟩
     refine ⟨_, rfl, _, _, rfl, rfl, A2u.ok (.inr ⟨by decide, by decide⟩), rfl, si (0 + (i : Int)), ?_⟩
     rw [Nat.pow_succ, Int.natCast_mul]
     rfl
   . rintro σ' H' ⟨rfl, v, rfl⟩
     exact ⟨rfl, v, rfl⟩
 rintro σ' H2 ⟨rfl, v, rfl⟩
 exact ⟨_, rfl, k⟩
def Y5d : Sp := fun vs H Q _ => ∃ c m : Int, vs = [.int c, .int m] /\ 1 <= m /\ m <= 60 /\ ∀ f H', 0 <= f -> f < A4 m -> C8 H H' -> Q (.int f) H'
theorem scLFig : C5 ["_law_cell", "_law_most", "_law_number", "_law_j", "_law_more", "_law_many", "_law_figures_here", "_law_way", "_law_behind"] Q19 (A2 C9e) := scK
theorem A0hk {f f1 f2 : Addr} {fd fd1 fd2 : FuncData} (D : Def K mg "_law_figures" Q19 C9e f fd) (D_l_mixed : Def K mg "_law_mixed" Q18 A7r f1 fd1) (G_l_mixed : sI P w K mg base 1 f1 fd1 Q18 C7n)
   (D_l_ten : Def K mg "_law_ten" Q10 B0y f2 fd2) (G_l_ten : sI P w K mg base 1 f2 fd2 Q10 B7n) (O : Own mg) : sI P w K mg base 2 f fd Q19 Y5d := by
 refine D.F.okE scLFig (fun vs H Q E h => ?_) (fun X cdv A outer s H vs Q E hX hr hx h => ?_)
 . obtain ⟨c, m, rfl, _⟩ := h
   rfl
 subst hX
 obtain ⟨c, mo, rfl, o1, o2, k⟩ := h
 refine ⟨_, (A3 (B5 (D3 (i := 2) scLFig.nd rfl (Or.inl rfl) A1)) (A3 (B5 (B7y PassesOwn.leaving rfl (B5u rfl O.range_ (A0 A1 A5)) (J7 (i := 3) scLFig.nd rfl (Or.inl rfl)) (A6 (B5 (D3 (i := 2) scLFig.nd rfl (Or.inl rfl) (A9 J4 (A9 G5 (pv 2) A1) (C9 D_l_mixed G_l_mixed hr hx (A0 (pv 0) (A0 (pv 3) A5))))))))) (A3 (B5 (D3 (i := 4) scLFig.nd rfl (Or.inl rfl) (C9 D_l_mixed G_l_mixed hr hx (A0 (pv 0) (A0 A1 A5))))) (A3 (B5 (D3 (i := 5) scLFig.nd rfl (Or.inl rfl) (D9 U6 (U4 (A0 (A9 J4 A1 (A9 J0 (A9 D8 (pv 4) A1) (pv 1))) (A0 (A9 J4 A1 (A9 J0 (A9 D8 (pv 4) A1) (J3 (A1y rfl) (by rfl) O.min_ boot_min (A0 A1 (A0 (pv 1) A5))))) (A0 (pv 1) A5)))) (A9 J0 (pv 4) A1) (fun _ _ => rfl)))) (A3 (B5 (D3 (i := 6) scLFig.nd rfl (Or.inl rfl) (A9 J0 (pv 2) (C9 D_l_ten G_l_ten hr hx (A0 (pv 5) A5))))) (A3 (B5 (D3 (i := 7) scLFig.nd rfl (Or.inl rfl) (A9 J0 (A9 D8 (pv 4) A1) A1))) (A3 (B5 (G4 (C7 G2 (pv 7) A1 (C6 _)) (A6 (B5 (D3 (i := 6) scLFig.nd rfl (Or.inl rfl) (A9 J8 (C9 D_l_ten G_l_ten hr hx (A0 (pv 5) A5)) A1)))) D0)) (A3 (B5 (G4 (C7 G2 (pv 7) A1 (C6 _)) (A3 (B5 (D3 (i := 8) scLFig.nd rfl (Or.inl rfl) (C9 D_l_ten G_l_ten hr hx (A0 (A9 J0 (A9 D8 (pv 4) A1) (pv 5)) A5)))) (A6 (B5 (D3 (i := 6) scLFig.nd rfl (Or.inl rfl) (A9 G5 (A9 D8 (pv 6) (pv 8)) (pv 8)))))) D0)) (A3 (B5 (G4 (C7 G2 (pv 7) A1 (C6 _)) (A6 (B5 (D3 (i := 6) scLFig.nd rfl (Or.inl rfl) (C9 D_l_ten G_l_ten hr hx (A0 (A9 J0 (A9 D8 (pv 4) A1) (pv 5)) A5))))) D0)) (A6 (B0 (D9 U6 (U4 (A0 (pv 6) (A0 (pv 6) (A0 A1 A5)))) (A9 G5 (A0k A1v (by rfl) O.int_ boot_int (A0 (G9 G2 (pv 7) A1 (C6 _)) A5)) A1) (fun _ _ => rfl))))))))))))), ?_⟩
 have z3 : 3 <= sizeLine := D7 (by decide)
 have mC : ∀ z n : Int, -(2 ^ 64) < n -> n < 2 ^ 64 -> IntMulOk z n := fun z n a b => A2u.ok (.inr ⟨a, b⟩)
 refine ⟨fun σ' H' => H' = H /\ σ' = [si c, si mo, si 0, none, none, none, none, none, none], ⟨rfl, rfl⟩, ?_⟩
 rintro σ' H1 ⟨rfl, rfl⟩
 refine ⟨fun σ' H' => H' = H1 /\ ∃ (n : Int) (v : Option V), σ' = [si c, si mo, si n, v, none, none, none, none, none], ⟨7, rfl, by decide, by decide, B5v (n := 7) (fun i σ' H' => H' = H1 /\ ∃ (n : Int) (v : Option V), σ' = [si c, si mo, si n, v, none, none, none, none, none]) ⟨rfl, 0, none, rfl⟩ ?_ (fun σ' H' h => h)⟩, ?_⟩
 . rintro i σ' H3 hi ⟨rfl, n, v, rfl⟩
   refine ⟨_, ?_, fun _ _ h => h⟩
   exact ⟨_, rfl, _, _, rfl, rfl, mC _ _ (by decide) (by decide), _, rfl, _, rfl, c, _, rfl, (by show (0 : Int) <= 0 + (i : Int); omega), (by show 0 + (i : Int) <= 100; omega), fun m' _ _ => ⟨_, _, rfl, rfl, rfl, _, _, rfl⟩⟩
 rintro σ' H2 ⟨rfl, n, v, rfl⟩
 refine ⟨fun σ' H' => ∃ m : Int, H' = H2 /\ 0 <= m /\ σ' = [si c, si mo, si n, v, si m, none, none, none, none], ⟨_, rfl, c, 7, rfl, by decide, by decide, fun m m0 _ => ⟨m, rfl, m0, rfl⟩⟩, ?_⟩
 rintro σ' H3 ⟨m, rfl, m0, rfl⟩
 refine ⟨fun σ' H' => ∃ y : Int, C8 H3 H' /\ 1 <= y /\ y <= mo /\ σ' = [si c, si mo, si n, v, si m, si y, none, none, none], ?_, ?_⟩
 . have mb : 0 < (if mo < 4 then mo else 4) /\ (if mo < 4 then mo else 4) <= mo := by split <;> omega
   obtain ⟨y, hy, ix⟩ := at3 (1 + m / 8 % mo) (1 + m / 8 % (if mo < 4 then mo else 4)) mo m
   have a0 := Int.emod_nonneg (m / 8) (show mo ≠ 0 by omega)
   have a1 := Int.emod_lt_of_pos (m / 8) (show 0 < mo by omega)
   have b0 := Int.emod_nonneg (m / 8) (show (if mo < 4 then mo else 4) ≠ 0 by omega)
   have b1 := Int.emod_lt_of_pos (m / 8) mb.1
   refine ⟨_, rfl, _, _, rfl, rfl, dv (n := 8) (by decide) (by decide +kernel), _, rfl, _, _, rfl, rfl, (show 0 < mo by omega), _, _, rfl, rfl, _, rfl, _, _, rfl, rfl, dv (n := 8) (by decide) (by decide +kernel), _, rfl, _, _, rfl, _, _, rfl, rfl, mb.1, _, _, rfl, rfl, _, rfl, z3, fun p np => ⟨_, rfl, _, _, rfl, rfl, (by decide : (0 : Int) < 3), p, _, _, _, rfl, rfl, SqL.of A7, ix, y, C8.upd np, ?_, ?_, rfl⟩⟩
   . rcases hy with rfl | rfl | rfl <;> omega
   . rcases hy with rfl | rfl | rfl <;> omega
 rintro σ' H4 ⟨y, s4, y1, y2, rfl⟩
 have tl : A4 y <= A4 mo := V8 y2
 refine ⟨fun σ' H' => ∃ g : Int, H' = H4 /\ 0 <= g /\ g < A4 mo /\ σ' = [si c, si mo, si n, v, si m, si y, si g, none, none], ?_, ?_⟩
 . exact ⟨_, rfl, _, rfl, y, rfl, by omega, by omega, _, _, rfl, rfl, D4 _, _, rfl, Int.emod_nonneg _ (Int.ne_of_gt (D4 _)), Int.lt_of_lt_of_le (Int.emod_lt_of_pos _ (D4 _)) tl, rfl⟩
 rintro σ' H5 ⟨g, rfl, g0, g1, rfl⟩
 refine ⟨fun σ' H' => ∃ w : Int, H' = H5 /\ σ' = [si c, si mo, si n, v, si m, si y, si g, si w, none], ⟨_, rfl, _, _, rfl, rfl, dv (n := 480) (by decide) (by decide +kernel), _, _, rfl, rfl, (by decide : (0 : Int) < 9), _, rfl, rfl⟩, ?_⟩
 rintro σ' H6 ⟨wy, rfl, rfl⟩
 refine ⟨fun σ' H' => ∃ g : Int, H' = H6 /\ 0 <= g /\ g < A4 mo /\ σ' = [si c, si mo, si n, v, si m, si y, si g, si wy, none], ?_, ?_⟩
 . refine ⟨_, rfl, rfl, _, rfl, J1 (fun h => ?_) (fun h => ⟨g, rfl, g0, g1, rfl⟩)⟩
   refine ⟨_, ?_, fun _ _ h => h⟩
   have tp := D4 y
   exact ⟨_, rfl, y, rfl, by omega, by omega, _, _, rfl, rfl, A4 y - 1, rfl, by omega, by omega, rfl⟩
 clear g0 g1
 rintro σ' H7 ⟨g, rfl, g0, g1, rfl⟩
 have e0 := Int.emod_nonneg (m / 4320) (show y ≠ 0 by omega)
 have e1 := Int.emod_lt_of_pos (m / 4320) (show 0 < y by omega)
 refine ⟨fun σ' H' => ∃ (g : Int) (u : Option V), H' = H7 /\ 0 <= g /\ g < A4 mo /\ σ' = [si c, si mo, si n, v, si m, si y, si g, si wy, u], ?_, ?_⟩
 . refine ⟨_, rfl, rfl, _, rfl, J1 (fun h => ?_) (fun h => ⟨g, none, rfl, g0, g1, rfl⟩)⟩
   refine ⟨fun σ' H' => H' = H7 /\ σ' = [si c, si mo, si n, v, si m, si y, si g, si wy, si (A4 (m / 4320 % y))], ⟨_, rfl, _, _, rfl, rfl, dv (n := 4320) (by decide) (by decide +kernel), _, rfl, _, _, rfl, rfl, (show 0 < y by omega), m / 4320 % y, rfl, by omega, by omega, rfl, rfl⟩, ?_⟩
   rintro σ' H8 ⟨rfl, rfl⟩
   refine ⟨_, ?_, fun _ _ h => h⟩
   have tp := D4 (m / 4320 % y)
   have q0 : 0 <= g / A4 (m / 4320 % y) := Int.ediv_nonneg g0 (Int.le_of_lt tp)
   have q1 : g / A4 (m / 4320 % y) * A4 (m / 4320 % y) <= g := Int.ediv_mul_le _ (Int.ne_of_gt tp)
   have q2 : g / A4 (m / 4320 % y) <= g := Int.ediv_le_self _ g0
   have t60 : A4 mo <= A4 60 := V8 o2
   refine ⟨_, rfl, _, rfl, _, _, rfl, rfl, V3y (by omega), _, rfl, _, _, rfl, rfl, IntMulOk.of_bits (U1n q0 (by omega)) (D9v (by omega)), _, _, rfl, Int.mul_nonneg q0 (Int.le_of_lt tp), Int.lt_of_le_of_lt q1 g1, rfl⟩
 clear g0 g1
 rintro σ' H8 ⟨g, u, rfl, g0, g1, rfl⟩
 refine ⟨fun σ' H' => ∃ g : Int, H' = H8 /\ 0 <= g /\ g < A4 mo /\ σ' = [si c, si mo, si n, v, si m, si y, si g, si wy, u], ?_, ?_⟩
 . refine ⟨_, rfl, rfl, _, rfl, J1 (fun h => ?_) (fun h => ⟨g, rfl, g0, g1, rfl⟩)⟩
   refine ⟨_, ?_, fun _ _ h => h⟩
   exact ⟨_, rfl, _, _, rfl, rfl, dv (n := 4320) (by decide) (by decide +kernel), _, rfl, _, _, rfl, rfl, (show 0 < y by omega), m / 4320 % y, rfl, by omega, by omega, _, rfl, Int.le_of_lt (D4 _), A0sg (by omega) e0, rfl⟩
 clear g0 g1
 rintro σ' H9 ⟨g, rfl, g0, g1, rfl⟩
 refine ⟨_, rfl, _, rfl, z3, fun p np => ⟨_, rfl, rfl, .inr ⟨_, rfl, _, _, rfl, rfl, mC _ _ (by decide) (by decide), ?_⟩⟩⟩
 have s9 : C8 H3 (upd H9 p (.lst [.int g, .int g, .int 0])) := s4.trans (C8.upd np)
 cases decide (V.int wy = V.int 4) with
 | true => exact ⟨p, _, _, _, rfl, rfl, SqL.of A7, B7 (j := 2) rfl, k 0 _ (Int.le_refl _) (D4 _) s9⟩
 | false => exact ⟨p, _, _, _, rfl, rfl, SqL.of A7, B7 (j := 0) rfl, k g _ g0 g1 s9⟩
def frV (r : Int) (y : Wy) (l m : Int) : List V := [.int r, .str y.name, .int l, .int m]
def J5j : Sp := fun vs H Q _ => ∃ c : Int, vs = [.int c] /\ 0 <= c /\ ∀ r y l m q H', C7s r l m -> C8 H H' -> H' q = some (.tup (frV r y l m)) -> Q (.ref q) H'
theorem scLFrame : C5 ["_law_cell", "_law_names", "_law_room", "_law_least", "_law_most"] ["_law_cell"] (A2 A8d) := scK
theorem V7t {f : Addr} {fd : FuncData} (D : Def K mg "_law_frame" ["_law_cell"] A8d f fd) : sI P w K mg base 1 f fd ["_law_cell"] J5j := by
 refine D.F.okE scLFrame (fun vs H Q E h => ?_) (fun X cdv A outer s H vs Q E hX hr hx h => ?_)
 . obtain ⟨c, rfl, _⟩ := h
   rfl
 subst hX
 obtain ⟨c, rfl, c0, k⟩ := h
 refine ⟨_, (A3 (B5 (D3 (i := 1) scLFrame.nd rfl (Or.inl rfl) (U4 (A0 D5 (A0 D5 (A0 D5 (A0 D5 (A0 D5 (A0 D5 (A0 D5 (A0 D5 A5))))))))))) (A3 (B5 (D3 (i := 2) scLFrame.nd rfl (Or.inl rfl) (D9 U6 (U4 (A0 (A9 J4 A1 (A9 J0 (A9 D8 (pv 0) A1) A1)) (A0 (A9 J4 A1 (A9 J0 (A9 D8 (pv 0) A1) A1)) (A0 A1 A5)))) (A9 J0 (pv 0) A1) (fun _ _ => rfl)))) (A3 (B5 (D3 (i := 3) scLFrame.nd rfl (Or.inl rfl) (D9 U6 (U4 (A0 (B1e A4m A1) (A0 (B1e A4m (A9 J0 (A9 D8 (pv 0) A1) A1)) (A0 (B1e A4m (A9 J0 (A9 D8 (pv 0) A1) A1)) A5)))) (A9 J0 (A9 D8 (pv 0) A1) A1) (fun _ _ => rfl)))) (A3 (B5 (D3 (i := 4) scLFrame.nd rfl (Or.inl rfl) (D9 U6 (U4 (A0 A1 (A0 (A9 J0 (A9 D8 (pv 0) A1) A1) (A0 (A9 J0 (A9 D8 (pv 0) A1) A1) A5)))) (A9 J0 (A9 D8 (pv 0) A1) A1) (fun _ _ => rfl)))) (A6 (B0 (U5 (A0 (pv 2) (A0 (D9 U6 (pv 1) (A9 J0 (A9 D8 (pv 0) A1) A1) (fun _ _ => rfl)) (A0 (pv 3) (A0 (pv 4) A5))))))))))), ?_⟩
 have z8 : 8 <= sizeLine := D7 (by decide)
 have z4 : 4 <= sizeLine := D7 (by decide)
 have z3 : 3 <= sizeLine := D7 (by decide)
 refine ⟨fun σ' H' => ∃ a, C8 H H' /\ H' a = some (.lst [.str "down", .str "up", .str "floor", .str "ceiling", .str "half up", .str "half down", .str "half even", .str "five up"]) /\ σ' = [si c, sr a, none, none, none], ⟨z8, fun a n => ⟨a, C8.upd n, A7, rfl⟩⟩, ?_⟩
 rintro σ' H1 ⟨a, s1, ea, rfl⟩
 refine ⟨fun σ' H' => ∃ r : Int, C8 H1 H' /\ 1 <= r /\ r <= 24 /\ σ' = [si c, sr a, si r, none, none], ?_, ?_⟩
 . obtain ⟨r, hr, ix⟩ := at3 (1 + c / 3 % 4) (1 + c / 3 % 24) 5 c
   refine ⟨_, rfl, _, _, rfl, rfl, dv (n := 3) (by decide) (by decide +kernel), _, _, rfl, rfl, (by decide : (0 : Int) < 4), _, _, rfl, rfl, _, rfl, _, _, rfl, rfl, dv (n := 3) (by decide) (by decide +kernel), _, _, rfl, rfl, (by decide : (0 : Int) < 24), _, _, rfl, rfl, z3, fun p np => ⟨_, rfl, _, _, rfl, rfl, (by decide : (0 : Int) < 3), p, _, _, _, rfl, rfl, SqL.of A7, ix, r, C8.upd np, ?_, ?_, rfl⟩⟩
   . rcases hr with rfl | rfl | rfl <;> omega
   . rcases hr with rfl | rfl | rfl <;> omega
 rintro σ' H2 ⟨r, s2, r1, r2, rfl⟩
 refine ⟨fun σ' H' => ∃ l : Int, C8 H1 H' /\ -60 <= l /\ l <= 0 /\ σ' = [si c, sr a, si r, si l, none], ?_, ?_⟩
 . obtain ⟨l, hl, ix⟩ := at3 (-60) (-(c / 72 % 61)) (-(c / 72 % 6)) (c / 576)
   refine ⟨_, rfl, _, rfl, _, _, rfl, rfl, dv (n := 72) (by decide) (by decide +kernel), _, _, rfl, rfl, (by decide : (0 : Int) < 61), _, rfl, _, rfl, _, _, rfl, rfl, dv (n := 72) (by decide) (by decide +kernel), _, _, rfl, rfl, (by decide : (0 : Int) < 6), _, rfl, z3, fun p np => ⟨_, rfl, _, _, rfl, rfl, dv (n := 576) (by decide) (by decide +kernel), _, _, rfl, rfl, (by decide : (0 : Int) < 3), p, _, _, _, rfl, rfl, SqL.of A7, ix, l, s2.trans (C8.upd np), ?_, ?_, rfl⟩⟩
   . rcases hl with rfl | rfl | rfl <;> omega
   . rcases hl with rfl | rfl | rfl <;> omega
 rintro σ' H3 ⟨l, s3, l1, l2, rfl⟩
 refine ⟨fun σ' H' => ∃ m : Int, C8 H1 H' /\ 0 <= m /\ m <= 60 /\ σ' = [si c, sr a, si r, si l, si m], ?_, ?_⟩
 . obtain ⟨m, hm, ix⟩ := at3 60 (c / 1728 % 61) (c / 1728 % 6) (c / 105408)
   refine ⟨_, rfl, _, _, rfl, rfl, dv (n := 1728) (by decide) (by decide +kernel), _, _, rfl, rfl, (by decide : (0 : Int) < 61), _, rfl, _, _, rfl, rfl, dv (n := 1728) (by decide) (by decide +kernel), _, _, rfl, rfl, (by decide : (0 : Int) < 6), z3, fun p np => ⟨_, rfl, _, _, rfl, rfl, dv (n := 105408) (by decide) (by decide +kernel), _, _, rfl, rfl, (by decide : (0 : Int) < 3), p, _, _, _, rfl, rfl, SqL.of A7, ix, m, s3.trans (C8.upd np), ?_, ?_, rfl⟩⟩
   . rcases hm with rfl | rfl | rfl <;> omega
   . rcases hm with rfl | rfl | rfl <;> omega
 rintro σ' H4 ⟨m, s4, m1, m2, rfl⟩
 obtain ⟨y, ix⟩ := at8 (c / 72)
 refine ⟨_, rfl, _, rfl, _, rfl, _, _, rfl, rfl, dv (n := 72) (by decide) (by decide +kernel), _, _, rfl, rfl, (by decide : (0 : Int) < 8), a, _, _, _, rfl, rfl, SqL.of (s4 _ _ ea), ix, _, rfl, _, rfl, z4, fun q nq => ?_⟩
 exact k r y l m q _ ⟨r1, r2, l1, l2, m1, m2⟩ (s1.trans (s4.trans (C8.upd nq))) A7
def Y5p (CC : Addr) : Sp := fun vs H Q _ => ∃ q r y l m, vs = [.ref q] /\ H q = some (.tup (frV r y l m)) /\ C7s r l m /\ ∀ c a b H', H c = none -> C8 H H' -> A0n CC H' c ⟨r, y, l, m⟩ a b [] [] -> Q (.ref c) H'
theorem A0te : C5 Q37 Q37 (A2 C8f) := scK
theorem A0gm {f fI CC CB : Addr} {fd fdI : FuncData} (D : Def K mg "_law_context" Q37 C8f f fd) (MC : A0ra P w K mg base CC CB fI fdI) (B4 : L2.Binds K fdI Q45 []) (C : D5f K mg CC) : sI P w K mg base 5 f fd Q37 (Y5p CC) := by
 refine D.F.okE A0te (fun vs H Q E h => ?_) (fun X cdv A outer s H vs Q E hX hr hx h => ?_)
 . obtain ⟨q, r, y, l, m, rfl, _⟩ := h
   rfl
 subst hX
 obtain ⟨q, r, y, l, m, rfl, eq, fr, k⟩ := h
 refine ⟨_, (A6 (B0 (A6x MC.m MC.g hr C.g B4 .nil hx (A0 (D9 G3 (pv 0) A1 (fun _ _ => rfl)) (A0 (D9 G3 (pv 0) A1 (fun _ _ => rfl)) (A0 (D9 G3 (pv 0) A1 (fun _ _ => rfl)) (A0 (D9 G3 (pv 0) A1 (fun _ _ => rfl)) A5))))))), ?_⟩
 refine ⟨_, rfl, q, _, _, _, rfl, rfl, SqT.of eq, B7 (j := 0) rfl, _, rfl, q, _, _, _, rfl, rfl, SqT.of eq, B7 (j := 1) rfl, _, rfl, q, _, _, _, rfl, rfl, SqT.of eq, B7 (j := 2) rfl, _, rfl, q, _, _, _, rfl, rfl, SqT.of eq, B7 (j := 3) rfl, fun x dx n1 n2 ne => ?_⟩
 exact A0zk n1 n2 ne rfl fr.r1 fr.r2 rfl (.inr ⟨rfl, fr.l1, fr.l2⟩) rfl fr.m1 fr.m2 fun a b H4 s4 hc => ⟨rfl, k x a b H4 n1 s4 hc⟩
def Nm.pv (x : Nm) : List V := [.int x.s, .int x.f, .int x.p]
def J4e : Sp := fun vs H Q _ => ∃ c m : Int, vs = [.int c, .int m] /\ 1 <= m /\ m <= 60 /\ ∀ (x : Nm) q H', x.k = .plain -> x.Ok -> x.f < A4 m -> C8 H H' -> H' q = some (.tup x.pv) -> Q (.ref q) H'
theorem scLPlain : C5 ["_law_cell", "_law_most", "_law_more", "_law_power_here"] Q19 (A2 A7z) := scK
theorem V6h {f f1 f2 : Addr} {fd fd1 fd2 : FuncData} (D : Def K mg "_law_plain" Q19 A7z f fd) (D_l_mixed : Def K mg "_law_mixed" Q18 A7r f1 fd1) (G_l_mixed : sI P w K mg base 1 f1 fd1 Q18 C7n)
   (D_l_figures : Def K mg "_law_figures" Q19 C9e f2 fd2) (G_l_figures : sI P w K mg base 2 f2 fd2 Q19 Y5d) : sI P w K mg base 3 f fd Q19 J4e := by
 refine D.F.okE scLPlain (fun vs H Q E h => ?_) (fun X cdv A outer s H vs Q E hX hr hx h => ?_)
 . obtain ⟨c, m, rfl, _⟩ := h
   rfl
 subst hX
 obtain ⟨c, mo, rfl, o1, o2, k⟩ := h
 refine ⟨_, (A3 (B5 (D3 (i := 2) scLPlain.nd rfl (Or.inl rfl) (C9 D_l_mixed G_l_mixed hr hx (A0 (pv 0) (A0 A1 A5))))) (A3 (B5 (D3 (i := 3) scLPlain.nd rfl (Or.inl rfl) (D9 U6 (U4 (A0 (A9 J8 (A9 J0 (A9 D8 (pv 2) A1) A1) A1) (A0 (A9 J8 (A9 J0 (A9 D8 (pv 2) A1) A1) A1) (A0 (A9 J8 (A9 J0 (A9 D8 (pv 2) A1) A1) A1) (A0 (A9 J8 (A9 J0 (A9 D8 (pv 2) A1) A1) A1) A5))))) (A9 D8 (A9 J0 (A9 D8 (pv 2) A1) A1) A1) (fun _ _ => rfl)))) (A6 (B0 (U5 (A0 (A9 J0 (pv 2) A1) (A0 (C9 D_l_figures G_l_figures hr hx (A0 (pv 0) (A0 (pv 1) A5))) (A0 (pv 3) A5)))))))), ?_⟩
 have z4 : 4 <= sizeLine := D7 (by decide)
 have z3 : 3 <= sizeLine := D7 (by decide)
 have d2 := dv (n := 2) (by decide) (by decide +kernel)
 refine ⟨fun σ' H' => ∃ m : Int, H' = H /\ 0 <= m /\ σ' = [si c, si mo, si m, none], ⟨_, rfl, c, 9, rfl, by decide, by decide, fun m m0 _ => ⟨m, rfl, m0, rfl⟩⟩, ?_⟩
 rintro σ' H1 ⟨m, rfl, m0, rfl⟩
 refine ⟨fun σ' H' => ∃ p : Int, C8 H1 H' /\ -200 <= p /\ p <= 200 /\ σ' = [si c, si mo, si m, si p], ?_, ?_⟩
 . obtain ⟨p, hp, ix⟩ := at4 (m / 2 % 13 - 6) (m / 2 % 61 - 30) (m / 2 % 401 - 200) (m / 2 % 3 - 1) (m / 802)
   refine ⟨_, rfl, _, _, rfl, rfl, d2, _, _, rfl, rfl, (by decide : (0 : Int) < 13), _, _, rfl, rfl, _, rfl, _, _, rfl, rfl, d2, _, _, rfl, rfl, (by decide : (0 : Int) < 61), _, _, rfl, rfl, _, rfl, _, _, rfl, rfl, d2, _, _, rfl, rfl, (by decide : (0 : Int) < 401), _, _, rfl, rfl, _, rfl, _, _, rfl, rfl, d2, _, _, rfl, rfl, (by decide : (0 : Int) < 3), _, _, rfl, rfl, z4, fun q nq => ⟨_, rfl, _, _, rfl, rfl, dv (n := 802) (by decide) (by decide +kernel), _, _, rfl, rfl, (by decide : (0 : Int) < 8), _, _, rfl, rfl, d2, q, _, _, _, rfl, rfl, SqL.of A7, ix, p, C8.upd nq, ?_, ?_, rfl⟩⟩
   . rcases hp with rfl | rfl | rfl | rfl <;> omega
   . rcases hp with rfl | rfl | rfl | rfl <;> omega
 rintro σ' H2 ⟨p, s2, p0, p1, rfl⟩
 have a0 := Int.emod_nonneg m (by decide : (2 : Int) ≠ 0)
 have a1 := Int.emod_lt_of_pos m (by decide : (0 : Int) < 2)
 have t60 : A4 mo <= A4 60 := V8 o2
 have e60 : A4 60 = 10 ^ 60 := by decide +kernel
 refine ⟨_, rfl, _, _, rfl, rfl, (by decide : (0 : Int) < 2), _, rfl, _, rfl, c, mo, rfl, o1, o2, fun f H' f0 f1 s' => ⟨_, rfl, z3, fun q nq => ?_⟩⟩
 exact k ⟨.plain, m % 2, f, p⟩ q _ rfl ⟨a0, by show m % 2 <= 1; omega, f0, by show f <= 10 ^ 60 - 1; omega, p0, p1⟩ f1 (s2.trans (s'.trans (C8.upd nq))) A7
abbrev A2j : Stmt := (top 84)
abbrev A7s : Stmt := (top 85)
abbrev J3z : Stmt := (top 86)
abbrev B7v : Stmt := (top 87)
abbrev B7x : Stmt := (top 88)
abbrev A8a : Stmt := (top 89)
abbrev A0f : Stmt := (top 91)
def Wy.code : Wy -> Nat
 | .down => 0
 | .up => 1
 | .floor => 2
 | .ceiling => 3
 | .halfUp => 4
 | .halfDown => 5
 | .halfEven => 6
 | .fiveUp => 7
theorem nW {y z : Wy} (h : y.code ≠ z.code) : ¬ V.str y.name = V.str z.name := fun q => h (by rw [Wy.inj (V.str.inj q)])
theorem A0sd {a b : Int} (h : 0 < a) (h2 : b < 2 * a) : Z4 a b = 3 := by
 unfold Z4
 rw [decide_eq_true h, decide_eq_true (show b <= 2 * a by omega), decide_eq_true h2]
 rfl
theorem A0rq {a b : Int} (h : 0 < a) (h2 : 2 * a = b) : Z4 a b = 2 := by
 unfold Z4
 rw [decide_eq_true h, decide_eq_true (show b <= 2 * a by omega), decide_eq_false (show ¬ b < 2 * a by omega)]
 rfl
theorem A0sq {a b : Int} (h : 0 < a) (h2 : 2 * a < b) : Z4 a b = 1 := by
 unfold Z4
 rw [decide_eq_true h, decide_eq_false (show ¬ b <= 2 * a by omega), decide_eq_false (show ¬ b < 2 * a by omega)]
 rfl
theorem A0sc {a b : Int} (h : a = 0) (hb : 0 < b) : Z4 a b = 0 := by
 subst h
 unfold Z4
 rw [decide_eq_false (show ¬ (0 : Int) < 0 by omega), decide_eq_false (show ¬ b <= 2 * 0 by omega), decide_eq_false (show ¬ b < 2 * 0 by omega)]
 rfl
def B6q (H : Hp) (q : Addr) (x : Nm) (zs : List Str) : Prop := ∃ t l, H q = some (.tup [.ref t, .ref l]) /\ H t = some (.tup x.vs) /\ H l = some (.lst (zs.map V.str))
inductive Lv where
 | rat (t b n : Int)
 | roo (t n : Int)
def A0r (t b : Int) : Int := if t * A4 (-(V4 t - V4 b)) < b * A4 (V4 t - V4 b) then V4 t - V4 b - 1 else V4 t - V4 b
def A6t (t n : Int) : Int := (V4 t - 1 + n) / 2
def Lv.vs : Lv -> List V
 | .rat t b n => [.int t, .int b, .int n, .bl false]
 | .roo t n => [.int t, .int 1, .int n, .bl true]
def Lv.L : Lv -> Int
 | .rat t b n => n + A0r t b
 | .roo t n => A6t t n
noncomputable def Lv.wh : Lv -> Int -> Int
 | .rat t b n, p => whI t b (n - p)
 | .roo t n, p => whQ t (n - 2 * p)
noncomputable def Lv.pt : Lv -> Int -> Int
 | .rat t b n, p => ptI t b (n - p)
 | .roo t n, p => C7e t (n - 2 * p) (whQ t (n - 2 * p))
def Lv.Ok : Lv -> Prop
 | .rat t b _ => Sz t /\ Sz b
 | .roo t n => SzQ t /\ -200 <= n /\ n <= 200
def Lv.In : Lv -> Int -> Prop
 | .rat _ _ n, p => -1500 <= n - p /\ n - p <= 1500
 | .roo _ n, p => -200 <= n - 2 * p /\ n - 2 * p <= 200
theorem V6d {f : Int} (h0 : 0 <= f) (h : f <= 9) : V4 f = 1 := by
 rcases (by omega : f = 0 \/ f = 1 \/ f = 2 \/ f = 3 \/ f = 4 \/ f = 5 \/ f = 6 \/ f = 7 \/ f = 8 \/ f = 9) with rfl | rfl | rfl | rfl | rfl | rfl | rfl | rfl | rfl | rfl <;> decide +kernel
theorem A0gk {f : Int} (h : 9 < f) : V4 f = V4 (f / 10) + 1 := by
 obtain ⟨n, rfl⟩ : ∃ n : Nat, f = (n : Int) := ⟨f.toNat, by omega⟩
 obtain ⟨j, a, b⟩ := B5w n (by omega)
 rcases j with _ | j
 . exfalso
   have : n < 10 := by simpa using b
   omega
 rw [A7t b a, show (n : Int) / 10 = ((n / 10 : Nat) : Int) by omega]
 rw [Nat.pow_succ] at a b
 rw [A7t (n := n / 10) (j := j) (by omega) (by omega)]
 omega
theorem B7s {t : Int} (h : Sz t) : A4 (V4 t - 1) <= t /\ t < A4 (V4 t) /\ 1 <= V4 t := by
 obtain ⟨n, rfl, h1, _⟩ := h.nat
 obtain ⟨j, a, b⟩ := B5w n h1
 rw [A7t b a]
 have e1 : A4 ((j : Int) + 1 - 1) = ((10 ^ j : Nat) : Int) := by unfold A4; rw [show ((j : Int) + 1 - 1).toNat = j by omega]
 have e2 : A4 ((j : Int) + 1) = ((10 ^ (j + 1) : Nat) : Int) := by unfold A4; rw [show ((j : Int) + 1).toNat = j + 1 by omega]
 rw [e1, e2]
 exact ⟨Int.ofNat_le.mpr a, Int.ofNat_lt.mpr b, by omega⟩
theorem V2n {t b s s0 : Int} (hb : 0 < b) (ht : 0 < t) (h : A0w t b s0) (e : s0 <= s) : b * A4 (-s) <= t * A4 s := by
 have c := A0e e
 have p0 := D4 (-s0)
 have p1 := D4 (s - s0)
 have q : t * A4 s * A4 (-s0) = t * A4 s0 * A4 (-s) * A4 (s - s0) := by
   calc t * A4 s * A4 (-s0) = t * (A4 s * A4 (-s0)) := by ac_rfl
     _ = t * (A4 s0 * A4 (-s) * A4 (s - s0)) := by rw [c]
     _ = t * A4 s0 * A4 (-s) * A4 (s - s0) := by ac_rfl
 have a1 : b * A4 (-s0) * A4 (-s) <= t * A4 s0 * A4 (-s) := Int.mul_le_mul_of_nonneg_right h.1 (Int.le_of_lt (D4 _))
 have a2 : t * A4 s0 * A4 (-s) * 1 <= t * A4 s0 * A4 (-s) * A4 (s - s0) := Int.mul_le_mul_of_nonneg_left (by omega) (Int.le_of_lt (Int.mul_pos (Int.mul_pos ht (D4 _)) (D4 _)))
 have e2 : b * A4 (-s) * A4 (-s0) = b * A4 (-s0) * A4 (-s) := by ac_rfl
 exact Int.le_of_mul_le_mul_right (by rw [e2, q]; omega) p0
theorem A0jp {t b s s0 : Int} (ht : 0 < t) (h : A0w t b s0) (e : s < s0) : t * A4 s < b * A4 (-s) := by
 have c := A0e (Int.le_of_lt e)
 have g := V4m (d := s0 - s) (by omega)
 have p0 := D4 (-s0)
 have q : t * A4 s0 * A4 (-s) = t * A4 s * A4 (-s0) * A4 (s0 - s) := by
   calc t * A4 s0 * A4 (-s) = t * (A4 s0 * A4 (-s)) := by ac_rfl
     _ = t * (A4 s * A4 (-s0) * A4 (s0 - s)) := by rw [c]
     _ = t * A4 s * A4 (-s0) * A4 (s0 - s) := by ac_rfl
 have a1 : t * A4 s0 * A4 (-s) < 10 * (b * A4 (-s0)) * A4 (-s) := Int.mul_lt_mul_of_pos_right h.2 (D4 _)
 have a2 : t * A4 s * A4 (-s0) * 10 <= t * A4 s * A4 (-s0) * A4 (s0 - s) := Int.mul_le_mul_of_nonneg_left g (Int.le_of_lt (Int.mul_pos (Int.mul_pos ht (D4 _)) p0))
 have e2 : 10 * (b * A4 (-s0)) * A4 (-s) = b * A4 (-s) * A4 (-s0) * 10 := by ac_rfl
 have a3 : t * A4 s * A4 (-s0) * 10 < b * A4 (-s) * A4 (-s0) * 10 := by rw [<- e2]; rw [q] at a1; omega
 exact Int.lt_of_mul_lt_mul_right (Int.lt_of_mul_lt_mul_right a3 (by decide)) (Int.le_of_lt p0)
theorem A0qu {t b s s0 : Int} (hb : 0 < b) (ht : 0 < t) (h : A0w t b s0) : whI t b s = 0 ↔ s < s0 := by
 have lp : 0 < b * A4 (-s) := Int.mul_pos hb (D4 _)
 have tp : 0 <= t * A4 s := Int.le_of_lt (Int.mul_pos ht (D4 _))
 unfold whI
 constructor
 . intro z
   apply Classical.byContradiction
   intro hh
   have a := V2n hb ht h (show s0 <= s by omega)
   have b1 : 1 <= t * A4 s / (b * A4 (-s)) := (Int.le_ediv_iff_mul_le lp).mpr (by rw [Int.one_mul]; exact a)
   omega
 intro e
 exact Int.ediv_eq_zero_of_lt tp (A0jp ht h e)
theorem Y4d {t b s0 : Int} (ht : Sz t) (hb : Sz b) (h : A0w t b s0) : V4 b - V4 t - 1 <= s0 := by
 obtain ⟨a1, a2, a3⟩ := B7s ht
 obtain ⟨b1, b2, b3⟩ := B7s hb
 apply Classical.byContradiction
 intro z
 have g := V2n (s := V4 b - V4 t - 1) (by have := hb.1; omega) (by have := ht.1; omega) h (by omega)
 generalize V4 t = T at *
 generalize V4 b = B at *
 have e : A4 T * A4 (B - T - 1) = A4 (B - 1) * A4 (-(B - T - 1)) := by
   unfold A4
   rw [<- Int.natCast_mul, <- Int.natCast_mul, <- Nat.pow_add, <- Nat.pow_add]
   congr 2
   omega
 have c1 : t * A4 (B - T - 1) < A4 T * A4 (B - T - 1) := Int.mul_lt_mul_of_pos_right a2 (D4 _)
 have c2 : A4 (B - 1) * A4 (-(B - T - 1)) <= b * A4 (-(B - T - 1)) := Int.mul_le_mul_of_nonneg_right b1 (Int.le_of_lt (D4 _))
 omega
theorem A0sy (r : Int) (y : Wy) (l m L : Int) : (if l > L then l else L) - r + 1 = Cv.fin ⟨r, y, l, m⟩ L := by
 unfold Cv.fin A0u
 dsimp only
 split <;> split <;> omega
theorem part_of {a b : Int} (hb : 0 < b) (h : 0 < a) : 2 + (if decide (2 * a - b > 0) = true then (1 : Int) else 0) - (if decide (2 * a - b < 0) = true then (1 : Int) else 0) = Z4 a b := by
 rcases (by omega : 2 * a < b \/ 2 * a = b \/ b < 2 * a) with h2 | h2 | h2
 . rw [A0sq h h2, decide_eq_false (by omega), decide_eq_true (by omega)]; rfl
 . rw [A0rq h h2, decide_eq_false (by omega), decide_eq_false (by omega)]; rfl
 rw [A0sd h h2, decide_eq_true (by omega), decide_eq_false (by omega)]; rfl
theorem B1a (e : Int) : A4 (if e > 0 then e else 0) = A4 e := by
 unfold A4
 split
 . rfl
 rw [show e.toNat = 0 by omega]; rfl
def B1n : Sp := fun vs H Q _ => ∃ n : Int, vs = [.int n] /\ 0 <= n /\ Q (.int (V4 n)) H
theorem scLCount : C5 ["_law_figures_here", "_law_many"] Q16 (A2 A2j) := scK
theorem V7g {f : Addr} {fd : FuncData} (D : Def K mg "_law_count" Q16 A2j f fd) : sI P w K mg base 1 f fd Q16 B1n := by
 refine D.F.okE scLCount (fun vs H Q E h => ?_) (fun X cdv A outer s H vs Q E hX hr hx h => ?_)
 . obtain ⟨n, rfl, _⟩ := h
   rfl
 subst hX
 obtain ⟨n, rfl, n0, k⟩ := h
 refine ⟨_, (A3 (B5 (D3 (i := 1) scLCount.nd rfl (Or.inl rfl) A1)) (A3 (B5 (A2q PassesOwn.leaving (C7 A7b (pv 0) A1 (C6 _)) (A3 (B5 (D3 (i := 0) scLCount.nd rfl (Or.inl rfl) (A9 D8 (pv 0) A1))) (A6 (B5 (D3 (i := 1) scLCount.nd rfl (Or.inl rfl) (A9 J4 (pv 1) A1))))))) (A6 (B0 (pv 1))))), ?_⟩
 refine ⟨fun σ' H' => H' = H /\ σ' = [si n, si 1], ⟨rfl, rfl⟩, ?_⟩
 rintro σ' H1 ⟨rfl, rfl⟩
 refine ⟨fun σ' H' => H' = H1 /\ ∃ f : Int, σ' = [si f, si (V4 n)], ?_, ?_⟩
 . refine A0z (fun σ H3 => H3 = H1 /\ ∃ f m : Int, 0 <= f /\ V4 f + m - 1 = V4 n /\ σ = [si f, si m]) (fun σ _ => match σ with | [some (.int f), _] => f.toNat | _ => 0) ⟨rfl, n, 1, n0, by omega, rfl⟩ ?_ ?_
   . rintro σ H3 ⟨rfl, f, m, f0, e, rfl⟩
     refine ⟨_, rfl, _, _, rfl, rfl, _, rfl, J1 (fun h => ?_) (fun h => ?_)⟩
     . have h : f > 9 := h
       refine ⟨fun σ' H' => H' = H3 /\ σ' = [si (f / 10), si m], ⟨_, rfl, _, _, rfl, rfl, dv (n := 10) (by decide) (by decide +kernel), rfl, rfl⟩, ?_⟩
       rintro σ' H4 ⟨rfl, rfl⟩
       refine ⟨_, ?_, fun _ _ h => h⟩
       have := A0gk (f := f) h
       refine ⟨_, rfl, _, _, rfl, rfl, ⟨rfl, f / 10, m + 1, by omega, by omega, rfl⟩, ?_⟩
       show (f / 10).toNat < f.toNat
       omega
     . have h : ¬ f > 9 := h
       have := V6d f0 (by omega)
       refine ⟨rfl, f, ?_⟩
       rw [show V4 n = m by omega]
   . rintro σ H3 Q1 Q2 hQ ⟨v1, e1, a1, a2, f1, f2, bb, eb, q⟩
     exact ⟨v1, e1, a1, a2, f1, f2, bb, eb, hQ _ _ q⟩
 rintro σ' H2 ⟨rfl, f, rfl⟩
 exact ⟨_, rfl, k⟩
def J4c : Sp := fun vs H Q _ => ∃ n : Nat, vs = [.int (n : Int)] /\ n < 2 ^ 1000 /\ ∀ r : Nat, r * r <= n -> n < (r + 1) * (r + 1) -> Q (.int (r : Int)) H
theorem scLIsqrt : C5 ["_law_number", "_law_found"] ["_law_number"] (A2 A7s) := scK
theorem V7m {f : Addr} {fd : FuncData} (D : Def K mg "_law_isqrt" ["_law_number"] A7s f fd) : sI P w K mg base 1 f fd ["_law_number"] J4c := by
 refine D.F.okE scLIsqrt (fun vs H Q E h => ?_) (fun X cdv A outer s H vs Q E hX hr hx h => ?_)
 . obtain ⟨n, rfl, _⟩ := h
   rfl
 subst hX
 obtain ⟨n, rfl, n2, k⟩ := h
 refine ⟨_, (A3 (B5 (G4 (C7 B6s (pv 0) A1 (C6 _)) (A6 (B0 (pv 0))) D0)) (A3 (B5 (D3 (i := 1) scLIsqrt.nd rfl (Or.inl rfl) (A9 A0st A1 (A9 D8 (A9 J4 (Y4v PySem.F.plainAttrs_int PySem.F.slot_int_bit_length PySem.F.type_int_bit_length B6r (pv 0)) A1) A1)))) (A3 (B5 (A2q PassesOwn.leaving (C7 A7b (A9 G5 (pv 1) (pv 1)) (pv 0) (C6 _)) (A6 (B5 (D3 (i := 1) scLIsqrt.nd rfl (Or.inl rfl) (A9 D8 (A9 J4 (pv 1) (A9 D8 (pv 0) (pv 1))) A1)))))) (A6 (B0 (pv 1)))))), ?_⟩
 have d2 : (0 : Int) < 2 /\ (2 : Int).natAbs.log2 < 9000 := ⟨by decide, by decide +kernel⟩
 refine ⟨fun σ' H' => H' = H /\ 2 <= n /\ σ' = [si (n : Int), none], ?_, ?_⟩
 . refine ⟨_, rfl, _, _, rfl, rfl, _, rfl, J1 (fun h => ?_) (fun h => ⟨rfl, by have : ¬ (n : Int) < 2 := h; omega, rfl⟩)⟩
   have h : (n : Int) < 2 := h
   exact ⟨_, rfl, k n (by rcases (by omega : n = 0 \/ n = 1) with rfl | rfl <;> decide) (by rcases (by omega : n = 0 \/ n = 1) with rfl | rfl <;> decide)⟩
 rintro σ' H1 ⟨rfl, n1, rfl⟩
 have lgb : n.log2 < 1000 := (Nat.log2_lt (by omega)).mpr n2
 refine ⟨fun σ' H' => H' = H1 /\ ∃ g : Nat, 1 <= g /\ g < 2 ^ 502 /\ n < (g + 1) * (g + 1) /\ σ' = [si (n : Int), si (g : Int)], ?_, ?_⟩
 . have e : (Builtin.Int.intBits (n : Int) : Nat) = n.log2 + 1 := by
     unfold Builtin.Int.intBits
     rw [if_neg (by simp; omega)]
     rfl
   refine ⟨_, rfl, rfl, _, rfl, rfl, _, _, rfl, rfl, _, _, rfl, rfl, d2, _, _, rfl, rfl, ⟨?_, ?_, by decide⟩, rfl, 2 ^ ((n.log2 + 2) / 2), Nat.pow_pos (by decide), Nat.pow_lt_pow_right (by decide) (by omega), ?_, ?_⟩
   . rw [e]; omega
   . rw [e]; omega
   . have a : n < 2 ^ (n.log2 + 1) := Nat.lt_log2_self
     have b : 2 ^ (n.log2 + 1) <= 2 ^ ((n.log2 + 2) / 2) * 2 ^ ((n.log2 + 2) / 2) := by
       rw [<- Nat.pow_add]
       exact Nat.pow_le_pow_right (by decide) (by omega)
     have c : 2 ^ ((n.log2 + 2) / 2) * 2 ^ ((n.log2 + 2) / 2) <= (2 ^ ((n.log2 + 2) / 2) + 1) * (2 ^ ((n.log2 + 2) / 2) + 1) := Nat.mul_le_mul (Nat.le_succ _) (Nat.le_succ _)
     omega
   . show [si (n : Int), si (1 * 2 ^ ((((Builtin.Int.intBits (n : Int) : Nat) : Int) + 1) / 2).toNat)] = _
     rw [e, show (((n.log2 + 1 : Nat) : Int) + 1) / 2 = (((n.log2 + 2) / 2 : Nat) : Int) by omega, Int.toNat_natCast, Int.one_mul, Int.natCast_pow]
     rfl
 rintro σ' H2 ⟨rfl, g, g1, g2, g3, rfl⟩
 refine ⟨fun σ' H' => H' = H2 /\ ∃ g : Nat, g * g <= n /\ n < (g + 1) * (g + 1) /\ σ' = [si (n : Int), si (g : Int)], ?_, ?_⟩
 . refine A0z (fun σ H3 => H3 = H2 /\ ∃ g : Nat, 1 <= g /\ g < 2 ^ 502 /\ n < (g + 1) * (g + 1) /\ σ = [si (n : Int), si (g : Int)]) (fun σ _ => match σ with | [_, some (.int g)] => g.toNat | _ => 0) ⟨rfl, g, g1, g2, g3, rfl⟩ ?_ ?_
   . rintro σ H3 ⟨rfl, g, g1, g2, g3, rfl⟩
     have gb : Builtin.Int.intBits (g : Int) <= 2 ^ 20 := C0e (k := 502) g2 (by decide)
     refine ⟨_, rfl, _, rfl, _, _, rfl, rfl, IntMulOk.of_bits gb gb, _, rfl, _, _, rfl, rfl, _, rfl, J1 (fun h => ?_) (fun h => ?_)⟩
     . have h : (g : Int) * (g : Int) > (n : Int) := h
       have h : n < g * g := by rw [<- Int.natCast_mul] at h; omega
       refine ⟨_, ?_, fun _ _ h => h⟩
       have lg : 0 < (g : Int) /\ (g : Int).natAbs.log2 < 9000 := ⟨by omega, Nat.lt_trans (A0s (k := 502) (by rw [Int.natAbs_natCast]; exact g2) (by decide)) (by decide)⟩
       have q : n / g < g := Nat.div_lt_of_lt_mul h
       have ne := Y5h (n := n) g1
       have g1' : 1 <= (g + n / g) / 2 := by
         apply Classical.byContradiction
         intro z
         revert ne z
         generalize n / g = d
         intro ne z
         rw [show (g + d) / 2 = 0 by omega] at ne
         omega
       have g2' : (g + n / g) / 2 < g := by
         revert q
         generalize n / g = d
         intro q
         omega
       refine ⟨_, rfl, _, rfl, _, rfl, _, _, rfl, rfl, lg, _, _, rfl, rfl, _, _, rfl, rfl, d2, ⟨rfl, (g + n / g) / 2, g1', Nat.lt_trans g2' g2, ne, ?_⟩, ?_⟩
       . show [si (n : Int), si (((g : Int) + (n : Int) / (g : Int)) / 2)] = _
         rw [show ((g : Int) + (n : Int) / (g : Int)) / 2 = (((g + n / g) / 2 : Nat) : Int) by rw [Int.natCast_ediv, Int.natCast_add, Int.natCast_ediv]; rfl]
       . show (((g : Int) + (n : Int) / (g : Int)) / 2).toNat < ((g : Int)).toNat
         rw [show ((g : Int) + (n : Int) / (g : Int)) / 2 = (((g + n / g) / 2 : Nat) : Int) by rw [Int.natCast_ediv, Int.natCast_add, Int.natCast_ediv]; rfl, Int.toNat_natCast, Int.toNat_natCast]
         exact g2'
     . have h : ¬ (g : Int) * (g : Int) > (n : Int) := h
       exact ⟨rfl, g, by rw [<- Int.natCast_mul] at h; omega, g3, rfl⟩
   . rintro σ H3 Q1 Q2 hQ ⟨v1, e1, v2, e2, a1, a2, f1, f2, m1, v3, e3, a3, a4, f3, f4, bb, eb, q⟩
     exact ⟨v1, e1, v2, e2, a1, a2, f1, f2, m1, v3, e3, a3, a4, f3, f4, bb, eb, hQ _ _ q⟩
 rintro σ' H3 ⟨rfl, g, h1, h2, rfl⟩
 exact ⟨_, rfl, k g h1 h2⟩
def V2z : Sp := fun vs H Q _ => ∃ (y : Wy) (s l pt : Int), vs = [.str y.name, .int s, .int l, .int pt] /\ 0 <= s /\ s <= 1 /\ 0 <= l /\ l <= 9 /\ 1 <= pt /\ pt <= 3 /\ ∀ H', C8 H H' -> Q (.bl (y.goes s l pt)) H'
theorem A0fy : C5 Q38 Q38 (A2 B7x) := scK
theorem Y7d {f : Addr} {fd : FuncData} (D : Def K mg "_law_goes_up" Q38 B7x f fd) : sI P w K mg base 1 f fd Q38 V2z := by
 refine A8.up (D.F.ok A0fy (fun vs H Q E h => ?_) (fun cdv A outer s H vs Q E hr h => ?_))
 . obtain ⟨y, z, l, pt, rfl, _⟩ := h
   rfl
 obtain ⟨y, z, l, pt, rfl, s0, s1, l0, l9, p1, p3, k⟩ := h
 refine ⟨_, (A3 (G4 (PW.pt (D8x (C7 G2 (pv 0) D5 (C6 _)) (C1v (C7 G2 (pv 0) D5 (C6 _))))) (A6 (B0 (G9 G2 (pv 0) D5 (C6 _)))) D0) (A3 (G4 (PW.pt (D8x (C7 G2 (pv 0) D5 (C6 _)) (C1v (C7 G2 (pv 0) D5 (C6 _))))) (A6 (B0 (G9 G2 (G9 G2 (pv 1) A1 (C6 _)) (G9 G2 (pv 0) D5 (C6 _)) (C6 _)))) D0) (A3 (G4 (C7 G2 (pv 0) D5 (C6 _)) (A6 (B0 (G9 A4c (pv 2) (U5 (A0 A1 (A0 A1 A5))) (by rfl)))) D0) (A3 (G4 (C7 C9h (pv 3) A1 (C6 _)) (A6 (B0 (G9 G2 (pv 3) A1 (C6 _)))) D0) (A6 (B0 (V4d (G9 G2 (pv 0) D5 (C6 _)) (A6f (B1t (G9 G2 (pv 0) D5 (C6 _)) (A6f (G9 G2 (A9 J0 (pv 2) A1) A1 (C6 _)))))))))))), ?_⟩
 have z2 : 2 <= sizeLine := D7 (by decide)
 have k1 := k H (C8.refl _)
 have kB : ∀ b : Bool, Q (.bl b) H -> ∀ b' : Bool, b' = b -> Q (.bl b') H := fun b h b' e => by rw [e]; exact h
 cases y with
 | down => exact ⟨_, rfl, rfl, _, rfl, A0p rfl (Z5 ⟨_, rfl, rfl, kB false k1 _ (decide_eq_false (nW (y := .down) (z := .up) (by decide)))⟩)⟩
 | up => exact ⟨_, rfl, rfl, _, rfl, U0 (nW (y := .up) (z := .down) (by decide)) ⟨_, rfl, rfl, _, rfl, A0p rfl ⟨_, rfl, rfl, kB true k1 _ (decide_eq_true rfl)⟩⟩⟩
 | floor =>
   refine ⟨_, rfl, rfl, _, rfl, U0 (nW (y := .floor) (z := .down) (by decide)) ⟨_, rfl, rfl, _, rfl, U0 (nW (y := .floor) (z := .up) (by decide)) ⟨_, rfl, rfl, _, rfl, A0p rfl (Z5 ⟨_, rfl, rfl, _, rfl, rfl, rfl, ?_⟩)⟩⟩⟩
   rcases (by omega : z = 0 \/ z = 1) with rfl | rfl <;> exact k1
 | ceiling =>
   refine ⟨_, rfl, rfl, _, rfl, U0 (nW (y := .ceiling) (z := .down) (by decide)) ⟨_, rfl, rfl, _, rfl, U0 (nW (y := .ceiling) (z := .up) (by decide)) ⟨_, rfl, rfl, _, rfl, U0 (nW (y := .ceiling) (z := .floor) (by decide)) ⟨_, rfl, rfl, _, rfl, A0p rfl ⟨_, rfl, rfl, _, rfl, rfl, rfl, ?_⟩⟩⟩⟩⟩
   rcases (by omega : z = 0 \/ z = 1) with rfl | rfl <;> exact k1
 | fiveUp =>
   refine ⟨_, rfl, rfl, _, rfl, U0 (nW (y := .fiveUp) (z := .down) (by decide)) ⟨_, rfl, rfl, _, rfl, U0 (nW (y := .fiveUp) (z := .up) (by decide)) ⟨_, rfl, rfl, _, rfl, U0 (nW (y := .fiveUp) (z := .floor) (by decide)) ⟨_, rfl, rfl, _, rfl, U0 (nW (y := .fiveUp) (z := .ceiling) (by decide)) ⟨_, rfl, rfl, _, rfl, A0p rfl ⟨_, rfl, z2, fun p np => ⟨p, _, rfl, .inr (SqT.of A7), rfl, rfl, ?_⟩⟩⟩⟩⟩⟩⟩
   exact k _ (C8.upd np)
 | halfUp =>
   refine ⟨_, rfl, rfl, _, rfl, U0 (nW (y := .halfUp) (z := .down) (by decide)) ⟨_, rfl, rfl, _, rfl, U0 (nW (y := .halfUp) (z := .up) (by decide)) ⟨_, rfl, rfl, _, rfl, U0 (nW (y := .halfUp) (z := .floor) (by decide)) ⟨_, rfl, rfl, _, rfl, U0 (nW (y := .halfUp) (z := .ceiling) (by decide)) ⟨_, rfl, rfl, _, rfl, U0 (nW (y := .halfUp) (z := .fiveUp) (by decide)) ⟨_, rfl, rfl, _, rfl, ?_⟩⟩⟩⟩⟩⟩
   rcases (by omega : pt = 1 \/ pt = 2 \/ pt = 3) with rfl | rfl | rfl
   . exact C9z (by decide) ⟨_, rfl, rfl, k1⟩
   . exact C8r rfl ⟨_, rfl, rfl, _, rfl, A0p rfl k1⟩
   . exact C9z (by decide) ⟨_, rfl, rfl, k1⟩
 | halfDown =>
   refine ⟨_, rfl, rfl, _, rfl, U0 (nW (y := .halfDown) (z := .down) (by decide)) ⟨_, rfl, rfl, _, rfl, U0 (nW (y := .halfDown) (z := .up) (by decide)) ⟨_, rfl, rfl, _, rfl, U0 (nW (y := .halfDown) (z := .floor) (by decide)) ⟨_, rfl, rfl, _, rfl, U0 (nW (y := .halfDown) (z := .ceiling) (by decide)) ⟨_, rfl, rfl, _, rfl, U0 (nW (y := .halfDown) (z := .fiveUp) (by decide)) ⟨_, rfl, rfl, _, rfl, ?_⟩⟩⟩⟩⟩⟩
   rcases (by omega : pt = 1 \/ pt = 2 \/ pt = 3) with rfl | rfl | rfl
   . exact C9z (by decide) ⟨_, rfl, rfl, k1⟩
   . exact C8r rfl ⟨_, rfl, rfl, _, rfl, U0 (nW (y := .halfDown) (z := .halfUp) (by decide)) ⟨_, rfl, rfl, _, rfl, U0 (nW (y := .halfDown) (z := .halfEven) (by decide)) k1⟩⟩
   . exact C9z (by decide) ⟨_, rfl, rfl, k1⟩
 | halfEven =>
   refine ⟨_, rfl, rfl, _, rfl, U0 (nW (y := .halfEven) (z := .down) (by decide)) ⟨_, rfl, rfl, _, rfl, U0 (nW (y := .halfEven) (z := .up) (by decide)) ⟨_, rfl, rfl, _, rfl, U0 (nW (y := .halfEven) (z := .floor) (by decide)) ⟨_, rfl, rfl, _, rfl, U0 (nW (y := .halfEven) (z := .ceiling) (by decide)) ⟨_, rfl, rfl, _, rfl, U0 (nW (y := .halfEven) (z := .fiveUp) (by decide)) ⟨_, rfl, rfl, _, rfl, ?_⟩⟩⟩⟩⟩⟩
   rcases (by omega : pt = 1 \/ pt = 2 \/ pt = 3) with rfl | rfl | rfl
   . exact C9z (by decide) ⟨_, rfl, rfl, k1⟩
   . exact C8r rfl ⟨_, rfl, rfl, _, rfl, U0 (nW (y := .halfEven) (z := .halfUp) (by decide)) ⟨_, rfl, rfl, _, rfl, A0p rfl ⟨_, rfl, _, _, rfl, rfl, (by decide : (0 : Int) < 2), rfl, k1⟩⟩⟩
   . exact C9z (by decide) ⟨_, rfl, rfl, k1⟩
theorem A5h {t b : Int} (ht : Sz t) (hb : Sz b) (n : Int) : A0w t b (n - (n + A0r t b)) := by
 obtain ⟨tn', et, t1, _⟩ := ht.nat
 obtain ⟨bn, eb, b1, _⟩ := hb.nat
 obtain ⟨L, l1, l2⟩ := B5w tn' t1
 obtain ⟨M, m1, m2⟩ := B5w bn b1
 subst et eb
 rw [show n - (n + A0r (tn' : Int) (bn : Int)) = 0 - A0r (tn' : Int) (bn : Int) by omega]
 unfold A0r
 rw [A7t l2 l1, A7t m2 m1, show (L : Int) + 1 - ((M : Int) + 1) = (L : Int) - M by omega]
 split
 . rename_i h
   have := D0e l1 l2 m1 m2 (by rw [show (M : Int) - L = -((L : Int) - M) by omega, Int.neg_neg]; exact h)
   rw [show (0 : Int) - ((L : Int) - M - 1) = (M : Int) - L + 1 by omega]
   exact this
 rename_i h
 have := D9h l1 l2 m1 m2 (by rw [show (M : Int) - L = -((L : Int) - M) by omega, Int.neg_neg]; omega)
 rw [show (0 : Int) - ((L : Int) - M) = (M : Int) - L by omega]
 exact this
theorem D0c {t : Int} (ht : SzQ t) (n : Int) : A6q t (n - 2 * A6t t n) := by
 obtain ⟨m, rfl, h1, _⟩ := V3q ht
 obtain ⟨L, l1, l2⟩ := B5w m h1
 refine D9k l1 l2 ?_
 unfold A6t
 rw [A7t l2 l1]
 congr 1
 omega
theorem A0tg {t : Int} (h : SzQ t) : Sz t := ⟨h.1, Int.lt_trans h.2 (by decide +kernel)⟩
theorem A0yn {t s : Int} {r : Nat} (h1 : (r * r : Nat) <= (t * A4 s / A4 (-s)).toNat) (h2 : (t * A4 s / A4 (-s)).toNat < (r + 1) * (r + 1)) (ht : 0 < t) : A1t t s (r : Int) := by
 have bp := D4 (-s)
 have tp : 0 <= t * A4 s := Int.le_of_lt (Int.mul_pos ht (D4 _))
 have d0 : 0 <= t * A4 s / A4 (-s) := Int.ediv_nonneg tp (Int.le_of_lt bp)
 have a : ((r * r : Nat) : Int) <= t * A4 s / A4 (-s) := by omega
 have b : t * A4 s / A4 (-s) < (((r + 1) * (r + 1) : Nat) : Int) := by omega
 refine ⟨Int.natCast_nonneg _, ?_, ?_⟩
 . have := (Int.le_ediv_iff_mul_le bp).mp a
   rw [Int.natCast_mul] at this
   exact this
 have := (Int.ediv_lt_iff_lt_mul bp).mp b
 rw [Int.natCast_mul, Int.natCast_add] at this
 exact this
theorem A0sw {T M lf : Int} {wh B : Int} (e : lf = T - wh * wh * B) (h : lf ≠ 0) : 2 + (if decide (4 * T - M > 0) = true then (1 : Int) else 0) - (if decide (4 * T - M < 0) = true then (1 : Int) else 0) = (if wh * wh * B = T then 0 else 1 + (if decide (M <= 4 * T) = true then 1 else 0) + (if decide (M < 4 * T) = true then 1 else 0)) := by
 rw [if_neg (show ¬ wh * wh * B = T by omega)]
 rcases (by omega : M < 4 * T \/ M = 4 * T \/ 4 * T < M) with h2 | h2 | h2
 . rw [decide_eq_true (show 4 * T - M > 0 by omega), decide_eq_false (show ¬ 4 * T - M < 0 by omega), decide_eq_true (show M <= 4 * T by omega), decide_eq_true (show M < 4 * T by omega)]; rfl
 . rw [decide_eq_false (show ¬ 4 * T - M > 0 by omega), decide_eq_false (show ¬ 4 * T - M < 0 by omega), decide_eq_true (show M <= 4 * T by omega), decide_eq_false (show ¬ M < 4 * T by omega)]; rfl
 rw [decide_eq_false (show ¬ 4 * T - M > 0 by omega), decide_eq_true (show 4 * T - M < 0 by omega), decide_eq_false (show ¬ M <= 4 * T by omega), decide_eq_false (show ¬ M < 4 * T by omega)]; rfl
theorem A0yu {t s wh : Int} : 0 <= C7e t s wh /\ C7e t s wh <= 3 := by
 unfold C7e
 split
 . decide
 generalize decide ((2 * wh + 1) * (2 * wh + 1) * A4 (-s) <= 4 * (t * A4 s)) = x
 generalize decide ((2 * wh + 1) * (2 * wh + 1) * A4 (-s) < 4 * (t * A4 s)) = y
 cases x <;> cases y <;> decide
theorem A0ju {t s s0 : Int} (ht : 0 < t) (h : A6q t s0) (e : s + 2 <= s0) : t * A4 s < A4 (-s) := by
 have c := A0e (show s <= s0 by omega)
 have g : 100 <= A4 (s0 - s) := by
   have : A4 2 <= A4 (s0 - s) := V8 (by omega)
   have e : A4 2 = 100 := rfl
   omega
 have p0 := D4 (-s0)
 have q : t * A4 s0 * A4 (-s) = t * A4 s * A4 (-s0) * A4 (s0 - s) := by
   calc t * A4 s0 * A4 (-s) = t * (A4 s0 * A4 (-s)) := by ac_rfl
     _ = t * (A4 s * A4 (-s0) * A4 (s0 - s)) := by rw [c]
     _ = t * A4 s * A4 (-s0) * A4 (s0 - s) := by ac_rfl
 have a1 : t * A4 s0 * A4 (-s) < 100 * A4 (-s0) * A4 (-s) := Int.mul_lt_mul_of_pos_right h.2 (D4 _)
 have a2 : t * A4 s * A4 (-s0) * 100 <= t * A4 s * A4 (-s0) * A4 (s0 - s) := Int.mul_le_mul_of_nonneg_left g (Int.le_of_lt (Int.mul_pos (Int.mul_pos ht (D4 _)) p0))
 have e2 : 100 * A4 (-s0) * A4 (-s) = A4 (-s) * A4 (-s0) * 100 := by ac_rfl
 have a3 : t * A4 s * A4 (-s0) * 100 < A4 (-s) * A4 (-s0) * 100 := by rw [<- e2]; rw [q] at a1; omega
 exact Int.lt_of_mul_lt_mul_right (Int.lt_of_mul_lt_mul_right a3 (by decide)) (Int.le_of_lt p0)
theorem A0zq {t s : Int} (ht : 1 <= t) (h : t * A4 s < A4 (-s)) : whQ t s = 0 := U1a ht ⟨Int.le_refl _, by rw [Int.zero_mul, Int.zero_mul]; exact Int.le_of_lt (Int.mul_pos (by omega) (D4 _)), by rw [show ((0 : Int) + 1) * (0 + 1) * A4 (-s) = A4 (-s) by omega]; exact h⟩
theorem A0yz {t s : Int} (ht : 1 <= t) (h : A6q t s) : whQ t s ≠ 0 := fun z => by
 have r := A6r (s := s) ht
 rw [z] at r
 have := r.2.2
 rw [show ((0 : Int) + 1) * (0 + 1) * A4 (-s) = A4 (-s) by omega] at this
 have := h.1
 omega
def Y7h : Sp := fun vs H Q _ => ∃ q lv p, vs = [.ref q, .int p] /\ H q = some (.tup (Lv.vs lv)) /\ lv.Ok /\ lv.In p /\ ∀ r H', C8 H H' -> H' r = some (.tup [.int (lv.wh p), .int (lv.pt p)]) -> Q (.ref r) H'
theorem scLAt : C5 ["_law_value", "_law_power_here", "_law_top", "_law_bottom", "_law_ten_here", "_law_is_root", "_law_many", "_law_found", "_law_left", "_law_twice"] Q30 (A2 J3z) := scK
theorem A0sf {f f1 f2 : Addr} {fd fd1 fd2 : FuncData} (D : Def K mg "_law_at" Q30 J3z f fd) (D_l_ten : Def K mg "_law_ten" Q10 B0y f1 fd1) (G_l_ten : sI P w K mg base 1 f1 fd1 Q10 B7n) (D_l_isqrt : Def K mg "_law_isqrt" ["_law_number"] A7s f2 fd2) (G_l_isqrt : sI P w K mg base 1 f2 fd2 ["_law_number"] J4c) (O : Own mg) : sI P w K mg base 2 f fd Q30 Y7h := by
 refine D.F.okE scLAt (fun vs H Q E h => ?_) (fun X cdv A outer s H vs Q E hX hr hx h => ?_)
 . obtain ⟨q, lv, p, rfl, _⟩ := h
   rfl
 subst hX
 obtain ⟨vq, lv, p, rfl, ev, ho, hi, k⟩ := h
 refine ⟨_, (A3 (B5 (A6e (pv 0) (B7g rfl (U9 (J7 (i := 2) scLAt.nd rfl (Or.inl rfl)) (U9 (J7 (i := 3) scLAt.nd rfl (Or.inl rfl)) (U9 (J7 (i := 4) scLAt.nd rfl (Or.inl rfl)) (U9 (J7 (i := 5) scLAt.nd rfl (Or.inl rfl)) A7u))))))) (A3 (B5 (D3 (i := 6) scLAt.nd rfl (Or.inl rfl) (A9 J8 (pv 4) (A9 G5 (pv 1) (V5 (Y2 (pv 5)) A1 A1))))) (A3 (B5 (D3 (i := 2) scLAt.nd rfl (Or.inl rfl) (A9 G5 (pv 2) (C9 D_l_ten G_l_ten hr hx (A0 (J3 (Y3 rfl) (by rfl) O.max_ boot_max (A0 A1 (A0 (pv 6) A5))) A5))))) (A3 (B5 (D3 (i := 3) scLAt.nd rfl (Or.inl rfl) (A9 G5 (pv 3) (C9 D_l_ten G_l_ten hr hx (A0 (J3 (Y3 rfl) (by rfl) O.max_ boot_max (A0 A1 (A0 (B1e A4m (pv 6)) A5))) A5))))) (A3 (B5 (G4 (A4k (Y2 (pv 5))) (A3 (B5 (A6e (J3 C0a (by rfl) O.divmod_ PyProof.Rows.boot_divmod (A0 (pv 2) (A0 (pv 3) A5))) (B7g rfl (U9 (J7 (i := 7) scLAt.nd rfl (Or.inl rfl)) (U9 (J7 (i := 8) scLAt.nd rfl (Or.inl rfl)) A7u))))) (A6 (B5 (D3 (i := 9) scLAt.nd rfl (Or.inl rfl) (A9 J8 (A9 G5 A1 (pv 8)) (pv 3)))))) (A3 (B5 (D3 (i := 7) scLAt.nd rfl (Or.inl rfl) (C9 D_l_isqrt G_l_isqrt hr hx (A0 (A9 D8 (pv 2) (pv 3)) A5)))) (A3 (B5 (D3 (i := 8) scLAt.nd rfl (Or.inl rfl) (A9 J8 (pv 2) (A9 G5 (A9 G5 (pv 7) (pv 7)) (pv 3))))) (A6 (B5 (D3 (i := 9) scLAt.nd rfl (Or.inl rfl) (A9 J8 (A9 G5 A1 (pv 2)) (A9 G5 (A9 G5 (A9 J4 (A9 G5 A1 (pv 7)) A1) (A9 J4 (A9 G5 A1 (pv 7)) A1)) (pv 3)))))))))) (A3 (B5 (G4 (C7 G2 (pv 8) A1 (C6 _)) (A6 (B0 (U5 (A0 (pv 7) (A0 A1 A5))))) D0)) (A6 (B0 (U5 (A0 (pv 7) (A0 (A9 J8 (A9 J4 A1 (A0k A1v (by rfl) O.int_ boot_int (A0 (G9 A7b (pv 9) A1 (C6 _)) A5))) (A0k A1v (by rfl) O.int_ boot_int (A0 (G9 B6s (pv 9) A1 (C6 _)) A5))) A5))))))))))), ?_⟩
 cases lv with
 | rat t b n =>
   obtain ⟨ht, hb⟩ := ho
   obtain ⟨n0, n1⟩ := hi
   have k : ∀ r H', C8 H H' -> H' r = some (.tup [.int (whI t b (n - p)), .int (ptI t b (n - p))]) -> Q (.ref r) H' := k
   have z2 : 2 <= sizeLine := D7 (by decide)
   have mC : ∀ z n : Int, -(2 ^ 64) < n -> n < 2 ^ 64 -> IntMulOk z n := fun z n a b => A2u.ok (.inr ⟨a, b⟩)
   have mC' : ∀ z n : Int, -(2 ^ 64) < n -> n < 2 ^ 64 -> IntMulOk n z := fun z n a b => A2u.ok (.inl ⟨a, b⟩)
   refine ⟨fun σ' H' => H' = H /\ σ' = [sr vq, si p, si t, si b, si n, some (.bl false), none, none, none, none], ⟨_, rfl, vq, _, rfl, SqT.of ev, rfl, _, _, rfl, _, _, rfl, _, _, rfl, _, _, rfl, rfl, rfl, rfl⟩, ?_⟩
   rintro σ' H1 ⟨rfl, rfl⟩
   refine ⟨fun σ' H' => H' = H1 /\ σ' = [sr vq, si p, si t, si b, si n, some (.bl false), si (n - p), none, none, none], ?_, ?_⟩
   . refine ⟨_, rfl, _, rfl, _, rfl, _, rfl, V3 ⟨_, _, rfl, rfl, mC _ _ (by decide) (by decide), _, _, rfl, rfl, rfl, ?_⟩⟩
     rw [Int.mul_one]
     rfl
   rintro σ' H2 ⟨rfl, rfl⟩
   generalize n - p = s at *
   have b1 : 0 < b := by have := hb.1; omega
   have lp : 0 < b * A4 (-s) := Int.mul_pos b1 (D4 _)
   refine ⟨fun σ' H' => H' = H2 /\ σ' = [sr vq, si p, si (t * A4 s), si b, si n, some (.bl false), si s, none, none, none], ?_, ?_⟩
   . refine ⟨_, rfl, _, rfl, _, _, rfl, _, rfl, ?_, ?_, _, _, rfl, rfl, ?_, rfl, ?_⟩
     . split <;> omega
     . split <;> omega
     . rw [B1a]; exact B1c ht (by omega)
     . rw [B1a]; rfl
   rintro σ' H3 ⟨rfl, rfl⟩
   refine ⟨fun σ' H' => H' = H3 /\ σ' = [sr vq, si p, si (t * A4 s), si (b * A4 (-s)), si n, some (.bl false), si s, none, none, none], ?_, ?_⟩
   . refine ⟨_, rfl, _, rfl, _, rfl, _, _, rfl, _, rfl, ?_, ?_, _, _, rfl, rfl, ?_, rfl, ?_⟩
     . split <;> omega
     . split <;> omega
     . rw [B1a]; exact B1c hb (by omega)
     . rw [B1a]; rfl
   rintro σ' H4 ⟨rfl, rfl⟩
   have ll := J9v hb (s := -s) (by omega)
   have hm : t * A4 s % (b * A4 (-s)) = t * A4 s - whI t b s * (b * A4 (-s)) := by
     unfold whI
     rw [Int.emod_def, Int.mul_comm (b * A4 (-s))]
   have lf0 := (V3j (t := t) (s := s) b1).1
   refine ⟨fun σ' H' => C8 H4 H' /\ σ' = [sr vq, si p, si (t * A4 s), si (b * A4 (-s)), si n, some (.bl false), si s, si (whI t b s), si (t * A4 s - whI t b s * (b * A4 (-s))), si (2 * (t * A4 s - whI t b s * (b * A4 (-s))) - b * A4 (-s))], ?_, ?_⟩
   . refine ⟨_, rfl, _, rfl, Z5 ?_⟩
     refine ⟨fun σ' H' => C8 H4 H' /\ σ' = [sr vq, si p, si (t * A4 s), si (b * A4 (-s)), si n, some (.bl false), si s, si (whI t b s), si (t * A4 s - whI t b s * (b * A4 (-s))), none], ?_, ?_⟩
     . refine ⟨_, rfl, _, rfl, _, _, rfl, ⟨lp, ll⟩, fun d nd => ?_⟩
       rw [hm]
       exact ⟨d, _, rfl, SqT.of A7, rfl, _, _, rfl, _, _, rfl, rfl, C8.upd nd, rfl⟩
     rintro σ' H5 ⟨s5, rfl⟩
     refine ⟨_, ?_, fun _ _ h => h⟩
     exact ⟨_, rfl, _, _, rfl, rfl, mC' _ _ (by decide) (by decide), _, rfl, _, _, rfl, rfl, s5, rfl⟩
   rintro σ' H5 ⟨s5, rfl⟩
   unfold ptI at k
   generalize t * A4 s - whI t b s * (b * A4 (-s)) = lf at *
   generalize b * A4 (-s) = lo at *
   generalize whI t b s = wh at *
   refine ⟨fun σ' H' => H' = H5 /\ lf ≠ 0 /\ σ' = [sr vq, si p, si (t * A4 s), si lo, si n, some (.bl false), si s, si wh, si lf, si (2 * lf - lo)], ?_, ?_⟩
   . refine ⟨_, rfl, rfl, _, rfl, J1 (fun h => ?_) (fun h => ⟨rfl, fun z => h (congrArg V.int z), rfl⟩)⟩
     have h : lf = 0 := V.int.inj h
     rw [A0sc h lp] at k
     exact ⟨_, rfl, z2, fun r nr => k r _ (s5.trans (C8.upd nr)) A7⟩
   rintro σ' H6 ⟨rfl, h, rfl⟩
   rw [<- part_of lp (by omega)] at k
   exact ⟨_, rfl, _, rfl, _, _, rfl, rfl, .inr ⟨_, rfl, _, _, rfl, rfl, _, rfl, _, _, rfl, rfl, .inr ⟨_, rfl, _, _, rfl, rfl, z2, fun r nr => k r _ (s5.trans (C8.upd nr)) A7⟩⟩⟩
 | roo t n =>
   obtain ⟨ht, m0, m1⟩ := ho
   obtain ⟨n0, n1⟩ := hi
   have k : ∀ r H', C8 H H' -> H' r = some (.tup [.int (whQ t (n - 2 * p)), .int (C7e t (n - 2 * p) (whQ t (n - 2 * p)))]) -> Q (.ref r) H' := k
   have z2 : 2 <= sizeLine := D7 (by decide)
   have mC : ∀ z n : Int, -(2 ^ 64) < n -> n < 2 ^ 64 -> IntMulOk z n := fun z n a b => A2u.ok (.inr ⟨a, b⟩)
   have mC' : ∀ z n : Int, -(2 ^ 64) < n -> n < 2 ^ 64 -> IntMulOk n z := fun z n a b => A2u.ok (.inl ⟨a, b⟩)
   refine ⟨fun σ' H' => H' = H /\ σ' = [sr vq, si p, si t, si 1, si n, some (.bl true), none, none, none, none], ⟨_, rfl, vq, _, rfl, SqT.of ev, rfl, _, _, rfl, _, _, rfl, _, _, rfl, _, _, rfl, rfl, rfl, rfl⟩, ?_⟩
   rintro σ' H1 ⟨rfl, rfl⟩
   refine ⟨fun σ' H' => H' = H1 /\ σ' = [sr vq, si p, si t, si 1, si n, some (.bl true), si (n - 2 * p), none, none, none], ?_, ?_⟩
   . refine ⟨_, rfl, _, rfl, _, rfl, _, rfl, Z5 ⟨_, _, rfl, rfl, mC _ _ (by decide) (by decide), _, _, rfl, rfl, rfl, ?_⟩⟩
     rw [Int.mul_comm 2 p]
     rfl
   rintro σ' H2 ⟨rfl, rfl⟩
   generalize n - 2 * p = s at *
   have t1 := ht.1
   have bp := D4 (-s)
   have tp : 0 < t * A4 s := Int.mul_pos (by omega) (D4 _)
   have sz := A0tg ht
   refine ⟨fun σ' H' => H' = H2 /\ σ' = [sr vq, si p, si (t * A4 s), si 1, si n, some (.bl true), si s, none, none, none], ?_, ?_⟩
   . refine ⟨_, rfl, _, rfl, _, _, rfl, _, rfl, ?_, ?_, _, _, rfl, rfl, ?_, rfl, ?_⟩
     . split <;> omega
     . split <;> omega
     . rw [B1a]; exact B1c sz (by omega)
     . rw [B1a]; rfl
   rintro σ' H3 ⟨rfl, rfl⟩
   refine ⟨fun σ' H' => H' = H3 /\ σ' = [sr vq, si p, si (t * A4 s), si (A4 (-s)), si n, some (.bl true), si s, none, none, none], ?_, ?_⟩
   . refine ⟨_, rfl, _, rfl, _, rfl, _, _, rfl, _, rfl, ?_, ?_, _, _, rfl, rfl, ?_, rfl, ?_⟩
     . split <;> omega
     . split <;> omega
     . rw [B1a]; exact B1c A4n (by omega)
     . show [_, _, _, si (1 * _), _, _, _, _, _, _] = _
       rw [B1a, Int.one_mul]
   rintro σ' H4 ⟨rfl, rfl⟩
   have ll := V3y (e := -s) (by omega)
   have d0 : 0 <= t * A4 s / A4 (-s) := Int.ediv_nonneg (Int.le_of_lt tp) (Int.le_of_lt bp)
   have dl : (t * A4 s / A4 (-s)).toNat < 2 ^ 1000 := by
     have a : t * A4 s / A4 (-s) <= t * A4 s := Int.ediv_le_self _ (Int.le_of_lt tp)
     have b := C9w ht (s := s) (by omega)
     have c : (2 : Nat) ^ 903 <= 2 ^ 1000 := Nat.pow_le_pow_right (by decide) (by decide)
     omega
   have wq := A6r (s := s) t1
   have mu := V3a ht n0 n1 wq
   generalize hw : whQ t s = wh at *
   refine ⟨fun σ' H' => H' = H4 /\ σ' = [sr vq, si p, si (t * A4 s), si (A4 (-s)), si n, some (.bl true), si s, si wh, si (t * A4 s - wh * wh * A4 (-s)), si (4 * (t * A4 s) - (2 * wh + 1) * (2 * wh + 1) * A4 (-s))], ?_, ?_⟩
   . refine ⟨_, rfl, _, rfl, V3 ?_⟩
     refine ⟨fun σ' H' => H' = H4 /\ σ' = [sr vq, si p, si (t * A4 s), si (A4 (-s)), si n, some (.bl true), si s, si wh, none, none], ?_, ?_⟩
     . refine ⟨_, rfl, _, rfl, _, _, rfl, rfl, ll, (t * A4 s / A4 (-s)).toNat, (by rw [Int.toNat_of_nonneg d0]; rfl), dl, fun r h1 h2 => ?_⟩
       have := U1a t1 (A0yn h1 h2 (by omega))
       rw [hw] at this
       rw [this]
       exact ⟨rfl, rfl⟩
     rintro σ' H5 ⟨rfl, rfl⟩
     refine ⟨fun σ' H' => H' = H5 /\ σ' = [sr vq, si p, si (t * A4 s), si (A4 (-s)), si n, some (.bl true), si s, si wh, si (t * A4 s - wh * wh * A4 (-s)), none], ⟨_, rfl, _, rfl, _, rfl, _, _, rfl, rfl, mu.o2, _, rfl, _, _, rfl, rfl, mu.o3, _, _, rfl, rfl, rfl, rfl⟩, ?_⟩
     rintro σ' H6 ⟨rfl, rfl⟩
     refine ⟨_, ?_, fun _ _ h => h⟩
     exact ⟨_, rfl, _, _, rfl, rfl, mC' _ _ (by decide) (by decide), _, rfl, _, _, rfl, rfl, mC' _ _ (by decide) (by decide), _, _, rfl, rfl, _, rfl, _, _, rfl, rfl, mC' _ _ (by decide) (by decide), _, _, rfl, rfl, _, _, rfl, rfl, mu.o6, _, rfl, _, _, rfl, rfl, mu.o7, _, _, rfl, rfl, rfl, rfl⟩
   rintro σ' H5 ⟨rfl, rfl⟩
   generalize hlf : t * A4 s - wh * wh * A4 (-s) = lf
   refine ⟨fun σ' H' => H' = H5 /\ lf ≠ 0 /\ σ' = [sr vq, si p, si (t * A4 s), si (A4 (-s)), si n, some (.bl true), si s, si wh, si lf, si (4 * (t * A4 s) - (2 * wh + 1) * (2 * wh + 1) * A4 (-s))], ?_, ?_⟩
   . refine ⟨_, rfl, rfl, _, rfl, J1 (fun h => ?_) (fun h => ⟨rfl, fun z => h (congrArg V.int z), rfl⟩)⟩
     have h : lf = 0 := V.int.inj h
     unfold C7e at k
     rw [if_pos (by omega)] at k
     exact ⟨_, rfl, z2, fun r nr => k r _ (C8.upd nr) A7⟩
   rintro σ' H6 ⟨rfl, h, rfl⟩
   unfold C7e at k
   rw [<- A0sw (M := (2 * wh + 1) * (2 * wh + 1) * A4 (-s)) hlf.symm h] at k
   exact ⟨_, rfl, _, rfl, _, _, rfl, rfl, .inr ⟨_, rfl, _, _, rfl, rfl, _, rfl, _, _, rfl, rfl, .inr ⟨_, rfl, _, _, rfl, rfl, z2, fun r nr => k r _ (C8.upd nr) A7⟩⟩⟩
def V3c : Sp := fun vs H Q _ => ∃ q lv, vs = [.ref q] /\ H q = some (.tup (Lv.vs lv)) /\ lv.Ok /\ ∀ H', C8 H H' -> Q (.int lv.L) H'
theorem scLLead : C5 ["_law_value", "_law_top", "_law_bottom", "_law_ten_here", "_law_is_root", "_law_first"] ["_law_value"] (A2 B7v) := scK
theorem Y8h {f f1 f2 : Addr} {fd fd1 fd2 : FuncData} (D : Def K mg "_law_lead" ["_law_value"] B7v f fd) (D_l_count : Def K mg "_law_count" Q16 A2j f1 fd1) (G_l_count : sI P w K mg base 1 f1 fd1 Q16 B1n) (D_l_at : Def K mg "_law_at" Q30 J3z f2 fd2) (G_l_at : sI P w K mg base 2 f2 fd2 Q30 Y7h) : sI P w K mg base 3 f fd ["_law_value"] V3c := by
 refine D.F.okE scLLead (fun vs H Q E h => ?_) (fun X cdv A outer s H vs Q E hX hr hx h => ?_)
 . obtain ⟨q, lv, rfl, _⟩ := h
   rfl
 subst hX
 obtain ⟨vq, lv, rfl, ev, ho, k⟩ := h
 refine ⟨_, (A3 (B5 (A6e (pv 0) (B7g rfl (U9 (J7 (i := 1) scLLead.nd rfl (Or.inl rfl)) (U9 (J7 (i := 2) scLLead.nd rfl (Or.inl rfl)) (U9 (J7 (i := 3) scLLead.nd rfl (Or.inl rfl)) (U9 (J7 (i := 4) scLLead.nd rfl (Or.inl rfl)) A7u))))))) (A3 (B5 (D3 (i := 5) scLLead.nd rfl (Or.inl rfl) (A9 J4 (A9 J8 (C9 D_l_count G_l_count hr hx (A0 (pv 1) A5)) (C9 D_l_count G_l_count hr hx (A0 (pv 2) A5))) (pv 3)))) (A3 (B5 (G4 (Y2 (pv 4)) (A6 (B5 (D3 (i := 5) scLLead.nd rfl (Or.inl rfl) (A9 J4 (A9 D8 (pv 5) A1) A1)))) D0)) (A3 (B5 (D3 (i := 5) scLLead.nd rfl (Or.inl rfl) (A9 J4 (pv 5) A1))) (A3 (B5 (A2q PassesOwn.leaving (C7 G2 (D9 G3 (C9 D_l_at G_l_at hr hx (A0 (pv 0) (A0 (pv 5) A5))) A1 (fun _ _ => rfl)) A1 (C6 _)) (A6 (B5 (D3 (i := 5) scLLead.nd rfl (Or.inl rfl) (A9 J8 (pv 5) A1)))))) (A6 (B0 (pv 5)))))))), ?_⟩
 cases lv with
 | rat t b n =>
   obtain ⟨ht, hb⟩ := ho
   have ld := A5h ht hb n
   have k : ∀ H', C8 H H' -> Q (.int (n + A0r t b)) H' := k
   generalize hL : n + A0r t b = L at *
   have t1 := ht.1; have b1 := hb.1
   have ls := A8f ht hb ld
   have lt := Y4d ht hb ld
   obtain ⟨_, _, ft⟩ := B7s ht
   obtain ⟨_, _, fb⟩ := B7s hb
   have ftl : V4 t <= 1001 := by
     apply Classical.byContradiction
     intro z
     have a : A4 1000 <= A4 (V4 t - 1) := V8 (by omega)
     have := (B7s ht).1; have := ht.2
     omega
   have fbl : V4 b <= 1001 := by
     apply Classical.byContradiction
     intro z
     have a : A4 1000 <= A4 (V4 b - 1) := V8 (by omega)
     have := (B7s hb).1; have := hb.2
     omega
   refine ⟨fun σ' H' => H' = H /\ σ' = [sr vq, si t, si b, si n, some (.bl false), none], ⟨_, rfl, vq, _, rfl, SqT.of ev, rfl, _, _, rfl, _, _, rfl, _, _, rfl, _, _, rfl, rfl, rfl, rfl⟩, ?_⟩
   rintro σ' H1 ⟨rfl, rfl⟩
   refine ⟨fun σ' H' => H' = H1 /\ σ' = [sr vq, si t, si b, si n, some (.bl false), si (V4 t - V4 b + n)], ⟨_, rfl, t, rfl, by omega, _, rfl, b, rfl, by omega, _, _, rfl, rfl, _, rfl, _, _, rfl, rfl, rfl, rfl⟩, ?_⟩
   rintro σ' H2 ⟨rfl, rfl⟩
   refine ⟨fun σ' H' => H' = H2 /\ σ' = [sr vq, si t, si b, si n, some (.bl false), si (V4 t - V4 b + n)], ⟨_, rfl, _, rfl, V3 ⟨rfl, rfl⟩⟩, ?_⟩
   rintro σ' H3 ⟨rfl, rfl⟩
   refine ⟨fun σ' H' => H' = H3 /\ σ' = [sr vq, si t, si b, si n, some (.bl false), si (V4 t - V4 b + n + 1)], ⟨_, rfl, _, _, rfl, rfl, rfl, rfl⟩, ?_⟩
   rintro σ' H4 ⟨rfl, rfl⟩
   refine ⟨fun σ' H' => C8 H4 H' /\ σ' = [sr vq, si t, si b, si n, some (.bl false), si L], ?_, ?_⟩
   . refine A0z (fun σ H5 => C8 H4 H5 /\ ∃ g : Int, L <= g /\ g <= V4 t - V4 b + n + 1 /\ σ = [sr vq, si t, si b, si n, some (.bl false), si g]) (fun σ _ => match σ with | [_, _, _, _, _, some (.int g)] => (g - L).toNat | _ => 0) ⟨C8.refl _, _, by omega, Int.le_refl _, rfl⟩ ?_ ?_
     . rintro σ H5 ⟨s5, g, g0, g1, rfl⟩
       have ev5 := s5 _ _ ev
       refine ⟨_, rfl, _, rfl, vq, .rat t b n, g, rfl, ev5, ⟨ht, hb⟩, ⟨by omega, by omega⟩, fun r H6 s6 er => ⟨r, _, _, _, rfl, rfl, SqT.of er, B7 (j := 0) rfl, rfl, _, rfl, J1 (fun h => ?_) (fun h => ?_)⟩⟩
       . have h : whI t b (n - g) = 0 := V.int.inj h
         have := (A0qu (by omega) (by omega) ld).mp h
         refine ⟨_, ?_, fun _ _ h => h⟩
         refine ⟨_, rfl, _, _, rfl, rfl, ⟨s5.trans s6, g - 1, by omega, by omega, rfl⟩, ?_⟩
         show (g - 1 - L).toNat < (g - L).toNat
         omega
       . have h : ¬ whI t b (n - g) = 0 := fun z => h (congrArg V.int z)
         have : ¬ n - g < n - L := fun z => h ((A0qu (by omega) (by omega) ld).mpr z)
         obtain rfl : g = L := by omega
         exact ⟨s5.trans s6, rfl⟩
     . rintro σ H5 Q1 Q2 hQ ⟨v1, e1, v2, e2, q, lv', p', e3, c1, c2, c3, c6⟩
       refine ⟨v1, e1, v2, e2, q, lv', p', e3, c1, c2, c3, fun r H6 s6 er => ?_⟩
       obtain ⟨a1, a2, a3, a4, a5, a6, a7, a8, a9, bb, eb, z⟩ := c6 r H6 s6 er
       exact ⟨a1, a2, a3, a4, a5, a6, a7, a8, a9, bb, eb, hQ _ _ z⟩
   rintro σ' H5 ⟨s5, rfl⟩
   exact ⟨_, rfl, k H5 s5⟩
 | roo t n =>
   obtain ⟨ht, m0, m1⟩ := ho
   have t1 := ht.1
   have ld := D0c ht n
   have lb := C6q ht ld
   have k : ∀ H', C8 H H' -> Q (.int (A6t t n)) H' := k
   have f1 : V4 1 = 1 := by decide +kernel
   have e0 : V4 t - V4 1 + n = V4 t - 1 + n := by omega
   have eL : (V4 t - 1 + n) / 2 = A6t t n := rfl
   generalize A6t t n = L at *
   have d2 : (0 : Int) < 2 /\ (2 : Int).natAbs.log2 < 9000 := ⟨by decide, by decide +kernel⟩
   refine ⟨fun σ' H' => H' = H /\ σ' = [sr vq, si t, si 1, si n, some (.bl true), none], ⟨_, rfl, vq, _, rfl, SqT.of ev, rfl, _, _, rfl, _, _, rfl, _, _, rfl, _, _, rfl, rfl, rfl, rfl⟩, ?_⟩
   rintro σ' H1 ⟨rfl, rfl⟩
   refine ⟨fun σ' H' => H' = H1 /\ σ' = [sr vq, si t, si 1, si n, some (.bl true), si (V4 t - 1 + n)], ⟨_, rfl, t, rfl, by omega, _, rfl, 1, rfl, by decide, _, _, rfl, rfl, _, rfl, _, _, rfl, rfl, rfl, ?_⟩, ?_⟩
   . rw [<- e0]
     rfl
   rintro σ' H2 ⟨rfl, rfl⟩
   refine ⟨fun σ' H' => H' = H2 /\ σ' = [sr vq, si t, si 1, si n, some (.bl true), si (L + 1)], ?_, ?_⟩
   . refine ⟨_, rfl, _, rfl, Z5 ⟨_, ?_, fun _ _ h => h⟩⟩
     refine ⟨_, rfl, _, _, rfl, rfl, d2, _, _, rfl, rfl, rfl, ?_⟩
     rw [<- eL]
     rfl
   rintro σ' H3 ⟨rfl, rfl⟩
   refine ⟨fun σ' H' => H' = H3 /\ σ' = [sr vq, si t, si 1, si n, some (.bl true), si (L + 1 + 1)], ⟨_, rfl, _, _, rfl, rfl, rfl, rfl⟩, ?_⟩
   rintro σ' H4 ⟨rfl, rfl⟩
   refine ⟨fun σ' H' => C8 H4 H' /\ σ' = [sr vq, si t, si 1, si n, some (.bl true), si L], ?_, ?_⟩
   . refine A0z (fun σ H5 => C8 H4 H5 /\ ∃ g : Int, L <= g /\ g <= L + 2 /\ σ = [sr vq, si t, si 1, si n, some (.bl true), si g]) (fun σ _ => match σ with | [_, _, _, _, _, some (.int g)] => (g - L).toNat | _ => 0) ⟨C8.refl _, _, by omega, by omega, rfl⟩ ?_ ?_
     . rintro σ H5 ⟨s5, g, g0, g1, rfl⟩
       have ev5 := s5 _ _ ev
       refine ⟨_, rfl, _, rfl, vq, .roo t n, g, rfl, ev5, ⟨ht, m0, m1⟩, ⟨by omega, by omega⟩, fun r H6 s6 er => ⟨r, _, _, _, rfl, rfl, SqT.of er, B7 (j := 0) rfl, rfl, _, rfl, J1 (fun h => ?_) (fun h => ?_)⟩⟩
       . have h : whQ t (n - 2 * g) = 0 := V.int.inj h
         have : g ≠ L := fun z => A0yz t1 ld (z ▸ h)
         refine ⟨_, ?_, fun _ _ h => h⟩
         refine ⟨_, rfl, _, _, rfl, rfl, ⟨s5.trans s6, g - 1, by omega, by omega, rfl⟩, ?_⟩
         show (g - 1 - L).toNat < (g - L).toNat
         omega
       . have h : ¬ whQ t (n - 2 * g) = 0 := fun z => h (congrArg V.int z)
         have : ¬ L < g := fun z => h (A0zq t1 (A0ju (by omega) ld (by omega)))
         obtain rfl : g = L := by omega
         exact ⟨s5.trans s6, rfl⟩
     . rintro σ H5 Q1 Q2 hQ ⟨v1, e1, v2, e2, q, lv', p', e3, c1, c2, c3, c6⟩
       refine ⟨v1, e1, v2, e2, q, lv', p', e3, c1, c2, c3, fun r H6 s6 er => ?_⟩
       obtain ⟨a1, a2, a3, a4, a5, a6, a7, a8, a9, bb, eb, z⟩ := c6 r H6 s6 er
       exact ⟨a1, a2, a3, a4, a5, a6, a7, a8, a9, bb, eb, hQ _ _ z⟩
   rintro σ' H5 ⟨s5, rfl⟩
   exact ⟨_, rfl, k H5 s5⟩
abbrev Y7 : Stmt := (top 90)
theorem Y4z (x : Str) (b : Bool) : (List.replicate (if b = true then (1 : Int) else 0).toNat [V.str x]).flatten = (V6p x b).map V.str := by cases b <;> rfl
theorem A0tj {pt l L : Int} {c : Bool} (h : L < l) : V6p "sunk" (!decide (pt = 0)) ++ (["faint"] : List Str) ++ Y0 pt c = Z1 (Y0 pt c ++ A1a l L pt) := by
 unfold Y0 A1a
 rw [if_neg (by omega : ¬ L >= l)]
 by_cases z : pt = 0
 . rw [if_pos z, if_pos z, decide_eq_true z]
   cases c <;> decide +kernel
 rw [if_neg z, if_neg z, decide_eq_false z]
 decide +kernel
theorem A0ga {pt l L : Int} {c : Bool} (h : ¬ L < l) : Y0 pt c = Z1 (Y0 pt c ++ A1a l L pt) := by
 unfold Y0 A1a
 rw [if_pos (by omega : L >= l)]
 by_cases z : pt = 0
 . rw [if_pos z]
   cases c <;> decide +kernel
 rw [if_neg z]
 decide +kernel
theorem A0tm {pt : Int} {c : Bool} : inV (.str "off") ((Y0 pt c).map V.str) = !decide (pt = 0) := by
 unfold Y0
 by_cases z : pt = 0
 . rw [if_pos z, decide_eq_true z]
   cases c <;> decide +kernel
 rw [if_neg z, decide_eq_false z]
 decide +kernel
theorem V5y {pt : Int} {c : Bool} : (Y0 pt c).length <= 2 := by
 unfold Y0
 split
 . cases c <;> decide
 decide
theorem A0jh {a b : Int} : 0 <= Z4 a b /\ Z4 a b <= 3 := by
 unfold Z4
 generalize decide (0 < a) = x
 generalize decide (b <= 2 * a) = y
 generalize decide (b < 2 * a) = z
 cases x <;> cases y <;> cases z <;> decide
theorem pt_b (lv : Lv) (q : Int) : 0 <= lv.pt q /\ lv.pt q <= 3 := by
 cases lv with
 | rat t b n => exact A0jh
 | roo t n => exact A0yu
noncomputable def setL (v : Cv) (s : Int) (lv : Lv) (i : Int) : Nm × List Str := C0m v s (lv.wh (v.fin lv.L)) (lv.pt (v.fin lv.L)) lv.L (v.fin lv.L) i
def J5g : Sp := fun vs H Q _ => ∃ r y l m s, vs = [.int r, .str (Wy.name y), .int m, .int s] /\ 1 <= r /\ r <= 24 /\ 0 <= s /\ s <= 1 /\ ∀ q H', C8 H H' -> H' q = some (.tup (C8v ⟨r, y, l, m⟩ s).vs) -> Q (.ref q) H'
theorem scLBurst : C5 ["_law_room", "_law_way", "_law_most", "_law_sign", "_law_low"] Q47 (A2 A8a) := scK
theorem V5z {f f1 : Addr} {fd fd1 : FuncData} (D : Def K mg "_law_burst" Q47 A8a f fd) (D_l_ten : Def K mg "_law_ten" Q10 B0y f1 fd1) (G_l_ten : sI P w K mg base 1 f1 fd1 Q10 B7n) : sI P w K mg base 2 f fd Q47 J5g := by
 refine D.F.okE scLBurst (fun vs H Q E h => ?_) (fun X cdv A outer s H vs Q E hX hr hx h => ?_)
 . obtain ⟨r, y, l, m, sg, rfl, _⟩ := h
   rfl
 subst hX
 obtain ⟨r, y, l, m, sg, rfl, r1, r2, s0, s1, k⟩ := h
 refine ⟨_, (A3 (B5 (D3 (i := 4) scLBurst.nd rfl (Or.inl rfl) (V4d (G9 A4c (pv 1) (U5 (A0 D5 (A0 D5 A5))) (by rfl)) (V4d (B1t (G9 G2 (pv 1) D5 (C6 _)) (A6f (G9 G2 (pv 3) A1 (C6 _)))) (A6f (B1t (G9 G2 (pv 1) D5 (C6 _)) (A6f (G9 G2 (pv 3) A1 (C6 _))))))))) (A3 (B5 (G4 (Y2 (pv 4)) (A6 (B0 (U5 (A0 D5 (A0 (pv 3) (A0 (A9 J8 (C9 D_l_ten G_l_ten hr hx (A0 (pv 0) A5)) A1) (A0 (A9 J4 (A9 J8 (pv 2) (pv 0)) A1) A5))))))) D0)) (A6 (B0 (U5 (A0 D5 (A0 (pv 3) (A0 A1 (A0 A1 A5))))))))), ?_⟩
 have z2 : 2 <= sizeLine := D7 (by decide)
 have z4 : 4 <= sizeLine := D7 (by decide)
 refine ⟨fun σ' H' => C8 H H' /\ σ' = [si r, sR y.name, si m, si sg, some (.bl (!y.toEnd sg))], ?_, ?_⟩
 . refine ⟨_, rfl, z2, fun p np => ⟨p, _, rfl, .inr (SqT.of A7), rfl, rfl, _, rfl, ?_⟩⟩
   have u := C8.upd (o := .tup [.str "down", .str "five up"]) np
   generalize upd H p (.tup [.str "down", .str "five up"]) = H1 at u
   show if (inV (.str y.name) [.str "down", .str "five up"]) = true then _ else _
   have fin : ∀ b : Bool, b = (!y.toEnd sg) -> C8 H H1 /\ [si r, sR y.name, si m, si sg, some (.bl b)] = [si r, sR y.name, si m, si sg, some (.bl (!y.toEnd sg))] := fun b e => ⟨u, by rw [e]⟩
   cases y with
   | down => exact Z5 (fin true rfl)
   | fiveUp => exact Z5 (fin true rfl)
   | up => exact V3 ⟨_, rfl, rfl, _, rfl, U0 (nW (y := .up) (z := .floor) (by decide)) ⟨_, rfl, V3 ⟨_, rfl, rfl, _, rfl, U0 (nW (y := .up) (z := .ceiling) (by decide)) (fin false rfl)⟩⟩⟩
   | halfUp => exact V3 ⟨_, rfl, rfl, _, rfl, U0 (nW (y := .halfUp) (z := .floor) (by decide)) ⟨_, rfl, V3 ⟨_, rfl, rfl, _, rfl, U0 (nW (y := .halfUp) (z := .ceiling) (by decide)) (fin false rfl)⟩⟩⟩
   | halfDown => exact V3 ⟨_, rfl, rfl, _, rfl, U0 (nW (y := .halfDown) (z := .floor) (by decide)) ⟨_, rfl, V3 ⟨_, rfl, rfl, _, rfl, U0 (nW (y := .halfDown) (z := .ceiling) (by decide)) (fin false rfl)⟩⟩⟩
   | halfEven => exact V3 ⟨_, rfl, rfl, _, rfl, U0 (nW (y := .halfEven) (z := .floor) (by decide)) ⟨_, rfl, V3 ⟨_, rfl, rfl, _, rfl, U0 (nW (y := .halfEven) (z := .ceiling) (by decide)) (fin false rfl)⟩⟩⟩
   | floor =>
     rcases (by omega : sg = 0 \/ sg = 1) with rfl | rfl
     . exact V3 ⟨_, rfl, rfl, _, rfl, A0p rfl ⟨_, rfl, rfl, _, rfl, A0p rfl (fin true (by decide +kernel))⟩⟩
     . exact V3 ⟨_, rfl, rfl, _, rfl, A0p rfl ⟨_, rfl, rfl, _, rfl, U0 (by decide) ⟨_, rfl, rfl, _, rfl, U0 (nW (y := .floor) (z := .ceiling) (by decide)) (fin false (by decide +kernel))⟩⟩⟩
   | ceiling =>
     rcases (by omega : sg = 0 \/ sg = 1) with rfl | rfl
     . exact V3 ⟨_, rfl, rfl, _, rfl, U0 (nW (y := .ceiling) (z := .floor) (by decide)) ⟨_, rfl, V3 ⟨_, rfl, rfl, _, rfl, A0p rfl ⟨_, rfl, rfl, fin _ (by decide +kernel)⟩⟩⟩⟩
     . exact V3 ⟨_, rfl, rfl, _, rfl, U0 (nW (y := .ceiling) (z := .floor) (by decide)) ⟨_, rfl, V3 ⟨_, rfl, rfl, _, rfl, A0p rfl ⟨_, rfl, rfl, fin _ (by decide +kernel)⟩⟩⟩⟩
 rintro σ' H1 ⟨u, rfl⟩
 unfold C8v at k
 refine ⟨fun σ' H' => H' = H1 /\ y.toEnd sg = true /\ σ' = [si r, sR y.name, si m, si sg, some (.bl (!y.toEnd sg))], ?_, ?_⟩
 . refine ⟨_, rfl, _, rfl, ?_⟩
   cases e : y.toEnd sg with
   | true => exact V3 ⟨rfl, rfl, rfl⟩
   | false =>
     rw [e, if_neg Bool.false_ne_true] at k
     exact Z5 ⟨_, rfl, _, rfl, r, rfl, by omega, by omega, _, _, rfl, rfl, _, rfl, _, rfl, _, _, rfl, rfl, _, _, rfl, rfl, z4, fun q nq => k q _ (u.trans (C8.upd nq)) A7⟩
 rintro σ' H2 ⟨rfl, e, rfl⟩
 rw [e, if_pos rfl] at k
 exact ⟨_, rfl, z4, fun q nq => k q _ (u.trans (C8.upd nq)) A7⟩
def A4a : Sp := fun vs H Q _ => ∃ fq r y l m s i, vs = [.ref fq, .int s, .int i] /\ H fq = some (.tup (frV r y l m)) /\ ∀ q H', C8 H H' -> B6q H' q (A1c ⟨r, y, l, m⟩ s i) [] -> Q (.ref q) H'
theorem V6r : C5 Q11 Q11 (A2 A0f) := scK
theorem Y6a (i lo m : Int) : (if (if i > lo then i else lo) < m then (if i > lo then i else lo) else m) = J5h (A0u i lo) m := by
 unfold J5h A0u
 repeat' split
 all_goals omega
theorem U0n {f : Addr} {fd : FuncData} (D : Def K mg "_law_nought" Q11 A0f f fd) (O : Own mg) : sI P w K mg base 1 f fd Q11 A4a := by
 refine D.F.okE V6r (fun vs H Q E h => ?_) (fun X cdv A outer s H vs Q E hX hr hx h => ?_)
 . obtain ⟨fq, r, y, l, m, sg, i, rfl, _⟩ := h
   rfl
 subst hX
 obtain ⟨fq, r, y, l, m, sg, i, rfl, ef, k⟩ := h
 refine ⟨_, (A6 (B0 (U5 (A0 (U5 (A0 D5 (A0 (pv 1) (A0 A1 (A0 (J3 (A1y rfl) (by rfl) O.min_ boot_min (A0 (D9 G3 (pv 0) A1 (fun _ _ => rfl)) (A0 (J3 (Y3 rfl) (by rfl) O.max_ boot_max (A0 (A9 J4 (A9 J8 (D9 G3 (pv 0) A1 (fun _ _ => rfl)) (D9 G3 (pv 0) A1 (fun _ _ => rfl))) A1) (A0 (pv 2) A5))) A5))) A5))))) (A0 (U4 A5) A5))))), ?_⟩
 have z0 : 0 <= sizeLine := Nat.zero_le _
 have z2 : 2 <= sizeLine := D7 (by decide)
 have z4 : 4 <= sizeLine := D7 (by decide)
 refine ⟨_, rfl, _, rfl, fq, _, _, _, rfl, rfl, SqT.of ef, B7 (j := 3) rfl, _, rfl, fq, _, _, _, rfl, rfl, SqT.of ef, B7 (j := 2) rfl, _, rfl, fq, _, _, _, rfl, rfl, SqT.of ef, B7 (j := 0) rfl, _, _, rfl, rfl, _, _, rfl, rfl, _, rfl, _, _, rfl, _, _, rfl, ?_⟩
 rw [Y6a]
 refine ⟨z4, fun a na => ⟨z0, fun b nb => ⟨z2, fun q nq => ?_⟩⟩⟩
 have u1 := C8.upd (o := .tup (A1c ⟨r, y, l, m⟩ sg i).vs) na
 have u2 := C8.upd (o := .lst []) nb
 have u3 := C8.upd (o := .tup [.ref a, .ref b]) nq
 exact k q _ (u1.trans (u2.trans u3)) ⟨a, b, A7, (u2.trans u3) _ _ A7, u3 _ _ A7⟩
def A2a : Sp := fun vs H Q _ => ∃ fq r y l m s vq lv i, vs = [.ref fq, .int s, .ref vq, .int i] /\ H fq = some (.tup (frV r y l m)) /\ C7s r l m /\ 0 <= s /\ s <= 1 /\ H vq = some (.tup (Lv.vs lv)) /\ lv.Ok /\ lv.In (Cv.fin ⟨r, y, l, m⟩ lv.L) /\ 0 <= lv.wh (Cv.fin ⟨r, y, l, m⟩ lv.L) /\ lv.wh (Cv.fin ⟨r, y, l, m⟩ lv.L) < A4 r /\
 ∀ q H', C8 H H' -> B6q H' q (setL ⟨r, y, l, m⟩ s lv i).1 (Z1 (setL ⟨r, y, l, m⟩ s lv i).2) -> Q (.ref q) H'
theorem scLSettled : C5 ["_law_frame_here", "_law_sign", "_law_value", "_law_ideal", "_law_room", "_law_way", "_law_least", "_law_most", "_law_first", "_law_power_here", "_law_figures_here", "_law_part", "_law_names"] Q14 (A2 Y7) := scK
theorem J4u {f f1 f2 f3 f4 f5 f6 : Addr} {fd fd1 fd2 fd3 fd4 fd5 fd6 : FuncData} (D : Def K mg "_law_settled" Q14 Y7 f fd) (D_l_lead : Def K mg "_law_lead" ["_law_value"] B7v f1 fd1) (G_l_lead : sI P w K mg base 3 f1 fd1 ["_law_value"] V3c)
   (D_l_at : Def K mg "_law_at" Q30 J3z f2 fd2) (G_l_at : sI P w K mg base 2 f2 fd2 Q30 Y7h) (D_l_goes_up : Def K mg "_law_goes_up" Q38 B7x f3 fd3) (G_l_goes_up : sI P w K mg base 1 f3 fd3 Q38 V2z) (D_l_ten : Def K mg "_law_ten" Q10 B0y f4 fd4) (G_l_ten : sI P w K mg base 1 f4 fd4 Q10 B7n)
   (D_l_count : Def K mg "_law_count" Q16 A2j f5 fd5) (G_l_count : sI P w K mg base 1 f5 fd5 Q16 B1n) (D_l_burst : Def K mg "_law_burst" Q47 A8a f6 fd6) (G_l_burst : sI P w K mg base 2 f6 fd6 Q47 J5g) (O : Own mg) : sI P w K mg base 4 f fd Q14 A2a := by
 refine D.F.okE scLSettled (fun vs H Q E h => ?_) (fun X cdv A outer s H vs Q E hX hr hx h => ?_)
 . obtain ⟨fq, r, y, l, m, sg, vq, lv, i, rfl, _⟩ := h
   rfl
 subst hX
 obtain ⟨fq, r, y, l, m, sg, vq, lv, i, rfl, ef, fr, s0, s1, ev, lo, li, w0, w1, k⟩ := h
 unfold setL at k
 refine ⟨_, (A3 (B5 (A6e (pv 0) (B7g rfl (U9 (J7 (i := 4) scLSettled.nd rfl (Or.inl rfl)) (U9 (J7 (i := 5) scLSettled.nd rfl (Or.inl rfl)) (U9 (J7 (i := 6) scLSettled.nd rfl (Or.inl rfl)) (U9 (J7 (i := 7) scLSettled.nd rfl (Or.inl rfl)) A7u))))))) (A3 (B5 (D3 (i := 8) scLSettled.nd rfl (Or.inl rfl) (C9 D_l_lead G_l_lead hr hx (A0 (pv 2) A5)))) (A3 (B5 (D3 (i := 9) scLSettled.nd rfl (Or.inl rfl) (A9 J4 (A9 J8 (J3 (Y3 rfl) (by rfl) O.max_ boot_max (A0 (pv 8) (A0 (pv 6) A5))) (pv 4)) A1))) (A3 (B5 (A6e (C9 D_l_at G_l_at hr hx (A0 (pv 2) (A0 (pv 9) A5))) (B7g rfl (U9 (J7 (i := 10) scLSettled.nd rfl (Or.inl rfl)) (U9 (J7 (i := 11) scLSettled.nd rfl (Or.inl rfl)) A7u))))) (A3 (B5 (D3 (i := 12) scLSettled.nd rfl (Or.inl rfl) (U4 A5))) (A3 (B5 (G4 (C7 G2 (pv 11) A1 (C6 _)) (A3 (B5 (A2q PassesOwn.leaving (PW.pt (C1t (C7 G2 (A9 J0 (pv 10) A1) A1 (C6 _)) (B5p (C7 B6s (pv 9) (pv 3) (C6 _))))) (A3 (B5 (D3 (i := 10) scLSettled.nd rfl (Or.inl rfl) (A9 D8 (pv 10) A1))) (A6 (B5 (D3 (i := 9) scLSettled.nd rfl (Or.inl rfl) (A9 J4 (pv 9) A1))))))) (A6 (B5 (D3 (i := 12) scLSettled.nd rfl (Or.inl rfl) (A9 Y5n (U4 (A0 D5 A5)) (A0k A1v (by rfl) O.int_ boot_int (A0 (G9 A7b (pv 9) (pv 3) (C6 _)) A5))))))) (A3 (B5 (D3 (i := 10) scLSettled.nd rfl (Or.inl rfl) (A9 J4 (pv 10) (A0k A1v (by rfl) O.int_ boot_int (A0 (C9 D_l_goes_up G_l_goes_up hr hx (A0 (pv 5) (A0 (pv 1) (A0 (A9 J0 (pv 10) A1) (A0 (pv 11) A5))))) A5))))) (A3 (B5 (G4 (C7 G2 (pv 10) (C9 D_l_ten G_l_ten hr hx (A0 (pv 4) A5)) (C6 _)) (A3 (B5 (D3 (i := 10) scLSettled.nd rfl (Or.inl rfl) (A9 D8 (pv 10) A1))) (A6 (B5 (D3 (i := 9) scLSettled.nd rfl (Or.inl rfl) (A9 J4 (pv 9) A1))))) D0)) (A6 (B5 (D3 (i := 12) scLSettled.nd rfl (Or.inl rfl) (U4 (A0 D5 (A0 D5 A5)))))))))) (A3 (B5 (G4 (C7 B6s (pv 8) (pv 6) (C6 _)) (A6 (B5 (D3 (i := 12) scLSettled.nd rfl (Or.inl rfl) (A9 G2g (A9 G2g (A9 Y5n (U4 (A0 D5 A5)) (A0k A1v (by rfl) O.int_ boot_int (A0 (G9 A4c D5 (pv 12) (by rfl)) A5))) (U4 (A0 D5 A5))) (pv 12))))) D0)) (A3 (B5 (G4 (PW.pt (C1t (C7 A7b (pv 10) A1 (C6 _)) (B5p (C7 A7b (A9 J8 (A9 J4 (pv 9) (C9 D_l_count G_l_count hr hx (A0 (pv 10) A5))) A1) (pv 7) (C6 _))))) (A6 (B0 (U5 (A0 (C9 D_l_burst G_l_burst hr hx (A0 (pv 4) (A0 (pv 5) (A0 (pv 7) (A0 (pv 1) A5))))) (A0 (U4 (A0 D5 (A0 D5 (A0 D5 A5)))) A5))))) D0)) (A6 (B0 (U5 (A0 (U5 (A0 D5 (A0 (pv 1) (A0 (pv 10) (A0 (pv 9) A5))))) (A0 (pv 12) A5))))))))))))), ?_⟩
 have z0 : 0 <= sizeLine := Nat.zero_le _
 have z1 : 1 <= sizeLine := D7 (by decide)
 have z2 : 2 <= sizeLine := D7 (by decide)
 have z3 : 3 <= sizeLine := D7 (by decide)
 have z4 : 4 <= sizeLine := D7 (by decide)
 have d10 : (0 : Int) < 10 /\ (10 : Int).natAbs.log2 < 9000 := ⟨by decide, by decide +kernel⟩
 have kb : ∀ b : Bool, -(2 ^ 63 : Int) <= (if b = true then (1 : Int) else 0) /\ (if b = true then (1 : Int) else 0) < 2 ^ 63 /\ 1 * (if b = true then (1 : Int) else 0).toNat <= sizeLine := fun b => by
   cases b
   . exact ⟨by decide, by decide, Nat.zero_le _⟩
   . exact ⟨by decide, by decide, z1⟩
 have ok : (Cv.mk r y l m).Ok := ⟨fr.r1, fr.r2, fr.l1, fr.l2, fr.m1, fr.m2⟩
 have r1 := fr.r1; have r2 := fr.r2
 refine ⟨fun σ' H' => H' = H /\ σ' = [sr fq, si sg, sr vq, si i, si r, sR y.name, si l, si m, none, none, none, none, none], ⟨_, rfl, fq, _, rfl, SqT.of ef, rfl, _, _, rfl, _, _, rfl, _, _, rfl, _, _, rfl, rfl, rfl, rfl⟩, ?_⟩
 rintro σ' H1 ⟨rfl, rfl⟩
 refine ⟨fun σ' H' => C8 H1 H' /\ σ' = [sr fq, si sg, sr vq, si i, si r, sR y.name, si l, si m, si lv.L, none, none, none, none], ⟨_, rfl, vq, lv, rfl, ev, lo, fun H' s' => ⟨s', rfl⟩⟩, ?_⟩
 rintro σ' H2 ⟨t2, rfl⟩
 have pb := pt_b lv (Cv.fin ⟨r, y, l, m⟩ lv.L)
 have wr : 0 <= lv.wh (Cv.fin ⟨r, y, l, m⟩ lv.L) /\ lv.wh (Cv.fin ⟨r, y, l, m⟩ lv.L) < A4 r := ⟨w0, w1⟩
 have fe := A0sy r y l m lv.L
 clear w0 w1
 generalize Cv.fin ⟨r, y, l, m⟩ lv.L = q at *
 refine ⟨fun σ' H' => H' = H2 /\ σ' = [sr fq, si sg, sr vq, si i, si r, sR y.name, si l, si m, si lv.L, si q, none, none, none], ?_, ?_⟩
 . refine ⟨_, rfl, _, rfl, _, _, rfl, _, rfl, _, _, rfl, rfl, _, _, rfl, rfl, rfl, ?_⟩
   rw [<- fe]
   rfl
 rintro σ' H3 ⟨rfl, rfl⟩
 refine ⟨fun σ' H' => C8 H1 H' /\ σ' = [sr fq, si sg, sr vq, si i, si r, sR y.name, si l, si m, si lv.L, si q, si (lv.wh q), si (lv.pt q), none], ?_, ?_⟩
 . exact ⟨_, rfl, _, rfl, vq, lv, q, rfl, t2 _ _ ev, lo, li, fun rr H' s' er => ⟨rr, _, rfl, SqT.of er, rfl, _, _, rfl, _, _, rfl, rfl, t2.trans s', rfl⟩⟩
 rintro σ' H4 ⟨t4, rfl⟩
 generalize lv.pt q = pt at *
 generalize lv.wh q = wh at *
 generalize lv.L = L at *
 refine ⟨fun σ' H' => ∃ a, C8 H1 H' /\ H' a = some (.lst []) /\ σ' = [sr fq, si sg, sr vq, si i, si r, sR y.name, si l, si m, si L, si q, si wh, si pt, sr a], ⟨z0, fun a na => ⟨a, t4.trans (C8.upd na), A7, rfl⟩⟩, ?_⟩
 rintro σ' H5 ⟨a, t5, ea, rfl⟩
 have nn : 0 <= (Z3 ⟨r, y, l, m⟩ sg wh pt q i).1 := by
   unfold Z3
   split
   . exact (C7z i (i - q).toNat wh q wr.1).1
   . have hu : 0 <= upI y sg wh pt := by
       unfold upI
       generalize (if pt = 0 then false else y.goes sg (wh % 10) pt) = g
       cases g with
       | true => show 0 <= wh + 1; omega
       | false => exact wr.1
     generalize upI y sg wh pt = u at hu
     unfold B6u
     split
     . show 0 <= u / 10; omega
     . exact hu
 refine ⟨fun σ' H' => ∃ a, C8 H1 H' /\ H' a = some (.lst ((Y0 pt (decide ((Z3 ⟨r, y, l, m⟩ sg wh pt q i).2 > i))).map V.str)) /\ σ' = [sr fq, si sg, sr vq, si i, si r, sR y.name, si l, si m, si L, si ((Z3 ⟨r, y, l, m⟩ sg wh pt q i).2), si ((Z3 ⟨r, y, l, m⟩ sg wh pt q i).1), si pt, sr a], ?_, ?_⟩
 . refine ⟨_, rfl, rfl, _, rfl, J1 (fun h => ?_) (fun h => ?_)⟩
   . have h : pt = 0 := V.int.inj h
     subst h
     have en : Z3 ⟨r, y, l, m⟩ sg wh 0 q i = Z2 i wh q := by unfold Z3; rw [if_pos rfl]
     rw [en]
     refine ⟨fun σ' H' => H' = H5 /\ σ' = [sr fq, si sg, sr vq, si i, si r, sR y.name, si l, si m, si L, si ((Z2 i wh q).2), si ((Z2 i wh q).1), si 0, sr a], ?_, ?_⟩
     . refine A0z (fun σ H6 => H6 = H5 /\ ∃ f p : Int, Z2 i f p = Z2 i wh q /\ σ = [sr fq, si sg, sr vq, si i, si r, sR y.name, si l, si m, si L, si p, si f, si 0, sr a]) (fun σ _ => match σ with | _ :: _ :: _ :: _ :: _ :: _ :: _ :: _ :: _ :: some (.int p) :: _ => (i - p).toNat | _ => 0) ⟨rfl, wh, q, rfl, rfl⟩ ?_ ?_
       . rintro σ H6 ⟨rfl, f, p, e, rfl⟩
         have stop : ¬ (p < i /\ f % 10 = 0) -> (f, p) = Z2 i wh q := fun h => by rw [<- e, D0f h]
         refine ⟨_, rfl, _, _, rfl, rfl, d10.1, rfl, _, rfl, J1 (fun h2 => ?_) (fun h2 => V3 ⟨rfl, by rw [<- stop fun q => h2 (congrArg V.int q.2)]⟩)⟩
         refine ⟨_, rfl, _, rfl, _, _, rfl, rfl, _, rfl, J1 (fun h1 => ?_) (fun h1 => ⟨rfl, by rw [<- stop fun q => h1 q.1]⟩)⟩
         have h1 : p < i := h1
         have h2 : f % 10 = 0 := V.int.inj h2
         refine ⟨fun σ' H' => H' = H6 /\ σ' = [sr fq, si sg, sr vq, si i, si r, sR y.name, si l, si m, si L, si p, si (f / 10), si 0, sr a], ⟨_, rfl, _, _, rfl, rfl, d10, rfl, rfl⟩, ?_⟩
         rintro σ' H7 ⟨rfl, rfl⟩
         refine ⟨_, ?_, fun _ _ h => h⟩
         refine ⟨_, rfl, _, _, rfl, rfl, ⟨rfl, f / 10, p + 1, (C8m h1 h2).symm.trans e, rfl⟩, ?_⟩
         show (i - (p + 1)).toNat < (i - p).toNat
         omega
       . rintro σ H6 Q1 Q2 hQ ⟨v1, e1, a1, a2, e2, e3, e4, e5, c, ec, q⟩
         refine ⟨v1, e1, a1, a2, e2, e3, e4, e5, c, ec, ?_⟩
         cases c with
         | false => exact V3 (hQ _ _ (by simpa using q))
         | true =>
           rw [if_pos rfl] at q ⊢
           obtain ⟨v1, e, v2, e2, a, b, e3, e4, c, e5, q⟩ := q
           exact ⟨v1, e, v2, e2, a, b, e3, e4, c, e5, hQ _ _ q⟩
     rintro σ' H6 ⟨rfl, rfl⟩
     refine ⟨_, ?_, fun _ _ h => h⟩
     generalize (Z2 i wh q).2 = p'
     refine ⟨z1, fun a1 n1 => ⟨_, rfl, _, rfl, _, _, rfl, rfl, .inr ⟨_, rfl, a1, _, _, rfl, rfl, A7, (kb (decide (p' > i))).1, (kb (decide (p' > i))).2.1, (kb (decide (p' > i))).2.2, fun a2 n2 => ?_⟩⟩⟩
     rw [Y4z]
     refine ⟨a2, t5.trans ((C8.upd n1).trans (C8.upd n2)), ?_, rfl⟩
     rw [A7]
     unfold Y0 V6p
     rw [if_pos rfl]
   . have h : ¬ pt = 0 := fun z => h (congrArg V.int z)
     have en : Z3 ⟨r, y, l, m⟩ sg wh pt q i = B6u r (upI y sg wh pt) q := by unfold Z3; rw [if_neg h]
     have er : ∀ c, Y0 pt c = (["off", "cut"] : List Str) := fun c => by unfold Y0; rw [if_neg h]
     rw [en, er]
     have m0 := Int.emod_nonneg wh (by decide : (10 : Int) ≠ 0)
     have m1 := Int.emod_lt_of_pos wh (by decide : (0 : Int) < 10)
     refine ⟨fun σ' H' => C8 H1 H' /\ σ' = [sr fq, si sg, sr vq, si i, si r, sR y.name, si l, si m, si L, si q, si (upI y sg wh pt), si pt, sr a], ?_, ?_⟩
     . refine ⟨_, rfl, _, rfl, _, rfl, _, rfl, _, _, rfl, rfl, d10.1, _, rfl, y, sg, wh % 10, pt, rfl, s0, s1, m0, by omega, by omega, pb.2, fun H6 s6 => .inr ⟨_, rfl, _, _, rfl, rfl, t5.trans s6, ?_⟩⟩
       have eu : upI y sg wh pt = wh + (if y.goes sg (wh % 10) pt = true then 1 else 0) := by
         unfold upI
         rw [if_neg h]
         cases y.goes sg (wh % 10) pt with
         | true => rfl
         | false => show wh = wh + 0; omega
       rw [eu]
       rfl
     rintro σ' H6 ⟨t6, rfl⟩
     generalize upI y sg wh pt = v
     refine ⟨fun σ' H' => H' = H6 /\ σ' = [sr fq, si sg, sr vq, si i, si r, sR y.name, si l, si m, si L, si ((B6u r v q).2), si ((B6u r v q).1), si pt, sr a], ?_, ?_⟩
     . unfold B6u
       refine ⟨_, rfl, _, rfl, r, rfl, by omega, by omega, rfl, _, rfl, J1 (fun e => ?_) (fun e => ?_)⟩
       . have e : v = A4 r := V.int.inj e
         rw [if_pos e]
         refine ⟨fun σ' H' => H' = H6 /\ σ' = [sr fq, si sg, sr vq, si i, si r, sR y.name, si l, si m, si L, si q, si (v / 10), si pt, sr a], ⟨_, rfl, _, _, rfl, rfl, d10, rfl, rfl⟩, ?_⟩
         rintro σ' H7 ⟨rfl, rfl⟩
         refine ⟨_, ?_, fun _ _ h => h⟩
         exact ⟨_, rfl, _, _, rfl, rfl, rfl, rfl⟩
       . have e : ¬ v = A4 r := fun z => e (congrArg V.int z)
         rw [if_neg e]
         exact ⟨rfl, rfl⟩
     rintro σ' H7 ⟨rfl, rfl⟩
     refine ⟨_, ?_, fun _ _ h => h⟩
     exact ⟨z2, fun a1 n1 => ⟨a1, t6.trans (C8.upd n1), A7, rfl⟩⟩
 rintro σ' H6 ⟨a, t6, ea, rfl⟩
 unfold C0m at k
 generalize (Z3 ⟨r, y, l, m⟩ sg wh pt q i).1 = f' at *
 generalize (Z3 ⟨r, y, l, m⟩ sg wh pt q i).2 = p' at *
 generalize decide (p' > i) = cu at *
 have rl := V5y (pt := pt) (c := cu)
 refine ⟨fun σ' H' => ∃ a, C8 H1 H' /\ H' a = some (.lst ((Z1 (Y0 pt cu ++ A1a l L pt)).map V.str)) /\ σ' = [sr fq, si sg, sr vq, si i, si r, sR y.name, si l, si m, si L, si p', si f', si pt, sr a], ?_, ?_⟩
 . refine ⟨_, rfl, _, rfl, _, _, rfl, rfl, _, rfl, J1 (fun h => ?_) (fun h => ⟨a, t6, by rw [<- A0ga h]; exact ea, rfl⟩)⟩
   refine ⟨_, ?_, fun _ _ h => h⟩
   refine ⟨z1, fun a1 n1 => ⟨_, rfl, a, _, rfl, .inl (SqL.of ((C8.upd n1) _ _ ea)), rfl, A1z _, .inr ⟨_, rfl, ?_⟩⟩⟩
   have u1 := C8.upd (o := .lst [.str "sunk"]) n1
   have e1 : (upd H6 a1 (.lst [.str "sunk"])) a1 = some (.lst [.str "sunk"]) := A7
   generalize upd H6 a1 (.lst [.str "sunk"]) = H7 at u1 e1
   have ei : (if false = true then !inV (V.str "off") ((Y0 pt cu).map V.str) else inV (V.str "off") ((Y0 pt cu).map V.str)) = !decide (pt = 0) := by rw [if_neg Bool.false_ne_true, A0tm]
   rw [ei]
   refine ⟨a1, _, _, rfl, rfl, e1, (kb _).1, (kb _).2.1, (kb _).2.2, fun a2 n2 => ?_⟩
   rw [Y4z]
   refine ⟨z1, fun a3 n3 => ?_⟩
   have u2 := C8.upd (o := .lst ((V6p "sunk" !decide (pt = 0)).map V.str)) n2
   have u3 := C8.upd (o := .lst [.str "faint"]) n3
   have rl2 : (V6p "sunk" !decide (pt = 0)).length <= 1 := by cases decide (pt = 0) <;> decide
   refine ⟨a2, a3, _, _, rfl, rfl, u3 _ _ A7, A7, D7 (by rw [List.length_map]; show _ + 1 <= _; omega), fun a4 n4 => ?_⟩
   have u4 := C8.upd (o := .lst ((V6p "sunk" !decide (pt = 0)).map V.str ++ [.str "faint"])) n4
   refine ⟨_, rfl, a4, a, _, _, rfl, rfl, A7, (u1.trans (u2.trans (u3.trans u4))) _ _ ea, D7 (by rw [List.length_append, List.length_map, List.length_map]; show _ + 1 + _ <= _; omega), fun a5 n5 => ?_⟩
   refine ⟨a5, t6.trans (u1.trans (u2.trans (u3.trans (u4.trans (C8.upd n5))))), ?_, rfl⟩
   rw [A7, <- A0tj h, List.map_append, List.map_append]
   rfl
 clear ea
 rintro σ' H7 ⟨a, t7, ea, rfl⟩
 refine ⟨fun σ' H' => H' = H7 /\ A3m m f' p' = false /\ σ' = [sr fq, si sg, sr vq, si i, si r, sR y.name, si l, si m, si L, si p', si f', si pt, sr a], ?_, ?_⟩
 . refine ⟨_, rfl, _, _, rfl, rfl, _, rfl, J1 (fun h => ?_) (fun h => V3 ⟨rfl, ?_, rfl⟩)⟩
   . have h : f' > 0 := h
     have eb : A3m m f' p' = decide (p' + V4 f' - 1 > m) := by unfold A3m; rw [if_neg (by omega)]
     rw [eb] at k
     refine ⟨_, rfl, _, rfl, f', rfl, nn, _, _, rfl, rfl, _, _, rfl, rfl, _, rfl, _, _, rfl, rfl, _, rfl, J1 (fun h2 => ?_) (fun h2 => ⟨rfl, by rw [eb]; exact decide_eq_false h2, rfl⟩)⟩
     rw [decide_eq_true (show p' + V4 f' - 1 > m from h2), if_pos rfl] at k
     refine ⟨_, rfl, _, rfl, _, rfl, _, rfl, r, y, l, m, sg, rfl, r1, r2, s0, s1, fun q' H' s' eq' => ⟨z3, fun a1 n1 => ⟨z2, fun a2 n2 => ?_⟩⟩⟩
     have u1 := C8.upd (o := .lst [.str "burst", .str "off", .str "cut"]) n1
     have u2 := C8.upd (o := .tup [.ref q', .ref a1]) n2
     exact k a2 _ (t7.trans (s'.trans (u1.trans u2))) ⟨q', a1, A7, (u1.trans u2) _ _ eq', u2 _ _ A7⟩
   . have h : ¬ f' > 0 := h
     unfold A3m
     rw [if_pos (by omega)]
 rintro σ' H8 ⟨rfl, e, rfl⟩
 rw [e, if_neg Bool.false_ne_true] at k
 refine ⟨_, rfl, _, rfl, _, rfl, z4, fun t1 n1 => ⟨_, rfl, z2, fun q' nq => ?_⟩⟩
 have u1 := C8.upd (o := .tup (Nm.vs ⟨.plain, sg, f', p'⟩)) n1
 have u2 := C8.upd (o := .tup [.ref t1, .ref a]) nq
 exact k q' _ (t7.trans (u1.trans u2)) ⟨t1, a, A7, u2 _ _ A7, (u1.trans u2) _ _ ea⟩
abbrev C9u : Stmt := (top 72)
abbrev B7q : Stmt := (top 73)
abbrev A0v : Stmt := (top 75)
abbrev C7q : Stmt := (top 74)
theorem A8.never {P : Program} {w : World} {K : Frag} {mg : Str -> Option Value} {base : Heap} {CX : CXT} {k : Nat} {f : Addr} {fd : FuncData} {ps : List Str} : A8 P w K mg base CX k f fd ps (fun _ _ _ _ => False) := ⟨fun _ _ _ _ h => h.elim, fun _ _ _ _ _ _ _ _ _ _ _ _ _ h => h.elim⟩
theorem V3z {t : Int} (h : SzL t) : 1 <= V4 t /\ V4 t <= 500 := by
 have fb := B7s h.sz
 refine ⟨fb.2.2, ?_⟩
 apply Classical.byContradiction
 intro z
 have a : A4 500 <= A4 (V4 t - 1) := V8 (by omega)
 have := h.2
 omega
theorem B7u {v : Cv} {t b n : Int} (ok : v.Ok) (ht : SzL t) (hb : SzL b) (n0 : -1300 <= n) (n1 : n <= 1300) : (Lv.rat t b n).In (v.fin (n + A0r t b)) /\ 0 <= whI t b (n - v.fin (n + A0r t b)) /\ whI t b (n - v.fin (n + A0r t b)) < A4 v.r := by
 have ft := V3z ht; have fb := V3z hb
 have r1 := ok.r1; have r2 := ok.r2; have l1 := ok.l1; have l2 := ok.l2
 have lf : -501 <= A0r t b /\ A0r t b <= 501 := by
   unfold A0r
   split <;> omega
 have wr := V2w (s1 := n - (n + A0r t b)) (s2 := n - v.fin (n + A0r t b)) (r := v.r) ht.sz hb.sz (A5h ht.sz hb.sz n) r1 (by
   unfold Cv.fin A0u
   split <;> omega)
 refine ⟨?_, wr⟩
 show -1500 <= n - v.fin (n + A0r t b) /\ n - v.fin (n + A0r t b) <= 1500
 unfold Cv.fin A0u
 split <;> omega
theorem V7h {t s s0 r : Int} (ht : 1 <= t) (h : A6q t s0) (hr : 1 <= r) (e : s <= s0 + 2 * (r - 1)) : whQ t s < A4 r := by
 have wq := A6r (s := s) ht
 have bp := D4 (-s)
 have key : t * A4 s < A4 (2 * r) * A4 (-s) := by
   have p0 := D4 (-s0)
   by_cases hs : s0 <= s
   . have c := A0e hs
     have q : t * A4 s * A4 (-s0) = t * A4 s0 * A4 (-s) * A4 (s - s0) := by
       calc t * A4 s * A4 (-s0) = t * (A4 s * A4 (-s0)) := by ac_rfl
         _ = t * (A4 s0 * A4 (-s) * A4 (s - s0)) := by rw [c]
         _ = t * A4 s0 * A4 (-s) * A4 (s - s0) := by ac_rfl
     have a1 : t * A4 s0 * A4 (-s) < 100 * A4 (-s0) * A4 (-s) := Int.mul_lt_mul_of_pos_right h.2 bp
     have a2 : t * A4 s0 * A4 (-s) * A4 (s - s0) < 100 * A4 (-s0) * A4 (-s) * A4 (s - s0) := Int.mul_lt_mul_of_pos_right a1 (D4 _)
     have g : A4 (s - s0) <= A4 (2 * (r - 1)) := V8 (by omega)
     have a3 : 100 * A4 (-s0) * A4 (-s) * A4 (s - s0) <= 100 * A4 (-s0) * A4 (-s) * A4 (2 * (r - 1)) := Int.mul_le_mul_of_nonneg_left g (Int.le_of_lt (Int.mul_pos (Int.mul_pos (by decide) p0) bp))
     have e2 : A4 (2 * r) = 100 * A4 (2 * (r - 1)) := by
       unfold A4
       rw [show (2 * r).toNat = (2 * (r - 1)).toNat + 2 by omega, Nat.pow_add, Int.natCast_mul, Int.mul_comm]
       rfl
     have e3 : 100 * A4 (-s0) * A4 (-s) * A4 (2 * (r - 1)) = A4 (2 * r) * A4 (-s) * A4 (-s0) := by rw [e2]; ac_rfl
     exact Int.lt_of_mul_lt_mul_right (by rw [q, <- e3]; omega) (Int.le_of_lt p0)
   . have c := A0e (show s <= s0 by omega)
     have q : t * A4 s0 * A4 (-s) = t * A4 s * A4 (-s0) * A4 (s0 - s) := by
       calc t * A4 s0 * A4 (-s) = t * (A4 s0 * A4 (-s)) := by ac_rfl
         _ = t * (A4 s * A4 (-s0) * A4 (s0 - s)) := by rw [c]
         _ = t * A4 s * A4 (-s0) * A4 (s0 - s) := by ac_rfl
     have a1 : t * A4 s0 * A4 (-s) < 100 * A4 (-s0) * A4 (-s) := Int.mul_lt_mul_of_pos_right h.2 bp
     have d := D4 (s0 - s)
     have a2 : t * A4 s * A4 (-s0) * 1 <= t * A4 s * A4 (-s0) * A4 (s0 - s) := Int.mul_le_mul_of_nonneg_left (by omega) (Int.le_of_lt (Int.mul_pos (Int.mul_pos (by omega) (D4 _)) p0))
     have g : 100 <= A4 (2 * r) := by
       have : A4 2 <= A4 (2 * r) := V8 (by omega)
       have e : A4 2 = 100 := rfl
       omega
     have a3 : 100 * (A4 (-s0) * A4 (-s)) <= A4 (2 * r) * (A4 (-s0) * A4 (-s)) := Int.mul_le_mul_of_nonneg_right g (Int.le_of_lt (Int.mul_pos p0 bp))
     have e3 : 100 * A4 (-s0) * A4 (-s) = 100 * (A4 (-s0) * A4 (-s)) := by ac_rfl
     have e4 : A4 (2 * r) * (A4 (-s0) * A4 (-s)) = A4 (2 * r) * A4 (-s) * A4 (-s0) := by ac_rfl
     exact Int.lt_of_mul_lt_mul_right (a := A4 (-s0)) (by rw [q] at a1; rw [<- e4]; omega) (Int.le_of_lt p0)
 apply Classical.byContradiction
 intro z
 have w : A4 r <= whQ t s := by omega
 have ww : A4 r * A4 r <= whQ t s * whQ t s := Int.mul_le_mul w w (Int.le_of_lt (D4 _)) wq.1
 have e : A4 (2 * r) = A4 r * A4 r := by
   unfold A4
   rw [<- Int.natCast_mul, <- Nat.pow_add]
   congr 2
   omega
 have := wq.2.1
 have b : A4 r * A4 r * A4 (-s) <= whQ t s * whQ t s * A4 (-s) := Int.mul_le_mul_of_nonneg_right ww (Int.le_of_lt bp)
 rw [e] at key
 omega
theorem V2m {v : Cv} {t n : Int} (ok : v.Ok) (ht : SzQ t) (n0 : -200 <= n) (n1 : n <= 200) : -200 <= n - 2 * v.fin (A6t t n) /\ n - 2 * v.fin (A6t t n) <= 200 /\ whQ t (n - 2 * v.fin (A6t t n)) < A4 v.r := by
 have ld := D0c ht n
 have lb := C6q ht ld
 have r1 := ok.r1; have r2 := ok.r2; have l1 := ok.l1; have l2 := ok.l2
 have rm := V7h (s := n - 2 * v.fin (A6t t n)) (r := v.r) ht.1 ld r1 (by
   unfold Cv.fin A0u
   split <;> omega)
 refine ⟨?_, ?_, rm⟩
 . unfold Cv.fin A0u
   split <;> omega
 unfold Cv.fin A0u
 split <;> omega
def A6g (f k : Int) : Int := ((f.toNat ^ k.natAbs : Nat) : Int)
def sgI (s k : Int) : Int := if k % 2 = 1 then s else 0
theorem A0qr {s k : Int} (h0 : 0 <= s) (h1 : s <= 1) : 0 <= sgI s k /\ sgI s k <= 1 := by unfold sgI; split <;> omega
theorem U1d {f k : Int} (f0 : 0 < f) (f1 : f < A4 24) (k0 : -20 <= k) (k1 : k <= 20) : SzL (A6g f k) := by
 unfold A6g
 have a : 0 < f.toNat ^ k.natAbs := Nat.pow_pos (by omega)
 refine ⟨by omega, ?_⟩
 have e : A4 24 = ((10 ^ 24 : Nat) : Int) := rfl
 have b : f.toNat ^ k.natAbs <= (10 ^ 24) ^ k.natAbs := Nat.pow_le_pow_left (by omega) _
 have c : (10 ^ 24) ^ k.natAbs <= (10 ^ 24) ^ 20 := Nat.pow_le_pow_right (by decide) (by omega)
 have d : (10 ^ 24) ^ 20 < 10 ^ 500 := by decide +kernel
 have g : A4 500 = ((10 ^ 500 : Nat) : Int) := rfl
 rw [g]
 exact Int.ofNat_lt.mpr (by omega)
theorem szl_one : SzL 1 := ⟨by decide, by decide +kernel⟩
noncomputable def rootR (v : Cv) (x : Nm) : Nm × List Str := if x.f = 0 then (A1c v x.s (x.p / 2), []) else if x.s = 1 then (A1q, ["void"]) else setL v 0 (.roo x.f x.p) (x.p / 2)
noncomputable def powR (v : Cv) (x : Nm) (k : Int) : Nm × List Str :=
 if x.f = 0 then (if k = 0 then (A1q, ["void"]) else if k < 0 then (⟨.end_, sgI x.s k, 0, 0⟩, ["split"]) else (A1c v (sgI x.s k) (k * x.p), []))
 else if k < 0 then setL v (sgI x.s k) (.rat 1 (A6g x.f k) (k * x.p)) (k * x.p) else setL v (sgI x.s k) (.rat (A6g x.f k) 1 (k * x.p)) (k * x.p)
def C8j (CN CC CT CR CQ : Addr) : Sp := fun vs H Q E => A7y CN CC CT CR (A7c CR) (C9q CR) vs H Q E \/ A7y CN CC CT CQ (B1b CQ) (J4s CQ) vs H Q E
def Y6h (CN CC CT : Addr) : Sp := fun vs H Q E => ∃ c v a b xs ys n x, vs = [.ref c, .ref n] /\ A0n CC H c v a b xs ys /\ v.Ok /\ xs.length <= 900 /\ Z1 xs = xs /\ V1 CN H n x /\ x.k = .plain /\ x.Ok /\ A1r CN CC CT H c v b xs ys (rootR v x) Q E
theorem A0sm : C5 Q39 Q39 (A2 C9u) := scK
theorem A0gz {f f1 f2 f3 f4 f5 fQ CN CC CB' CT CR CQ CE : Addr} {fd fd1 fd2 fd3 fd4 fd5 fdQ : FuncData} {d0 : Value} {gP : List Value -> List Value -> List Value} {vP : List V -> List V -> List V} (D : Def K mg "root" Q39 C9u f fd) (D_need_number : Def K mg "need_number" ["thing"] A4p f1 fd1) (G_need_number : sI P w K mg base 1 f1 fd1 ["thing"] (C0f K CN CB'))
   (D_nothing : Def K mg "nothing" [] Z0 f2 fd2) (G_nothing : sI P w K mg base 3 f2 fd2 [] (A1w CN)) (D_nought : Def K mg "nought" Q7 A0j f3 fd3) (G_nought : sI P w K mg base 3 f3 fd3 Q7 (A4u CN CC)) (D_void : Def K mg "void" ["context"] B1m f4 fd4) (G_void : sI P w K mg base 4 f4 fd4 ["context"] (C1u CN CC CT))
   (D_settled : Def K mg "settled" Q13 A0b f5 fd5) (G_settled : sI P w K mg base 6 f5 fd5 Q13 (C8j CN CC CT CR CQ)) (N : Num K mg CN) (MQ : A0qz P w K mg base CQ fQ fdQ d0 gP vP) (RQ : V7z K mg CQ CE) : sI P w K mg base 7 f fd Q39 (Y6h CN CC CT) := by
 refine D.F.okE A0sm (fun vs H Q E h => ?_) (fun X cdv A outer s H vs Q E hX hr hx h => ?_)
 . obtain ⟨c, v, a, b, xs, ys, n, x, rfl, _⟩ := h
   rfl
 subst hX
 obtain ⟨c, v, a, b, xs, ys, n, x, rfl, hc, ok, lx, ox, hn, hk, xo, kk⟩ := h
 refine ⟨_, (A3 (V7 (C9 D_need_number G_need_number hr hx (A0 (pv 1) A5))) (A3 (G4 (C7 G2 (D6 (pv 1) rfl) D5 (C6 _)) (A6 (B0 (A3f D_nothing G_nothing hr hx))) D0) (A3 (G4 (PW.pt (C1t (C7 G2 (D6 (pv 1) rfl) D5 (C6 _)) (B5p (C7 G2 (D6 (pv 1) rfl) A1 (C6 _))))) (A6 (B0 (C9 D_nought G_nought hr hx (A0 (pv 0) (A0 (D6 (pv 1) rfl) (A0 (A9 D8 (D6 (pv 1) rfl) A1) A5)))))) D0) (A3 (G4 (C7 G2 (D6 (pv 1) rfl) A1 (C6 _)) (A6 (B0 (C9 D_void G_void hr hx (A0 (pv 0) A5)))) D0) (A3 (G4 (C7 G2 (D6 (pv 1) rfl) D5 (C6 _)) (A6 (B0 (pv 1))) D0) (A6 (B0 (C9 D_settled G_settled hr hx (A0 (pv 0) (A0 A1 (A0 (A6x MQ.m MQ.g hr RQ.g MQ.b3 .nil hx (A0 (D6 (pv 1) rfl) (A0 (D6 (pv 1) rfl) A5))) (A0 (A9 D8 (D6 (pv 1) rfl) A1) A5)))))))))))), ?_⟩
 obtain ⟨dn, en⟩ := id hn
 have xp0 := xo.p0; have xp1 := xo.p1; have xf0 := xo.f0; have xf1 := xo.f1
 have npl : ∀ {z : Str}, Kd.plain.str ≠ z -> ¬ V.str x.k.str = V.str z := fun hz e => by
   rw [hk] at e
   exact hz (by injection e)
 have d2 : (0 : Int) < 2 /\ (2 : Int).natAbs.log2 < 9000 := ⟨by decide, by decide +kernel⟩
 refine ⟨_, rfl, _, rfl, .inl ⟨n, _, _, _, _, rfl, hn, ?_⟩⟩
 refine ⟨_, rfl, n, CN, dn, _, _, rfl, en, N.cl, N.n1, B1u _ _ _ _, rfl, _, rfl, U0 (npl (by decide +kernel)) ?_⟩
 refine ⟨_, rfl, n, CN, dn, _, _, rfl, en, N.cl, N.n1, B1u _ _ _ _, rfl, _, rfl, A0p (by rw [hk]; rfl) ?_⟩
 refine ⟨_, rfl, n, CN, dn, _, _, rfl, en, N.cl, N.n3, B6n _ _ _ _, rfl, _, rfl, ?_⟩
 unfold rootR at kk
 by_cases hf : x.f = 0
 . rw [if_pos hf] at kk
   refine A0p (congrArg V.int hf) ?_
   exact ⟨_, rfl, _, rfl, n, CN, dn, _, _, rfl, en, N.cl, N.n2, D5e _ _ _ _, _, rfl, n, CN, dn, _, _, rfl, en, N.cl, N.n4, A6u _ _ _ _, _, _, rfl, rfl, d2, c, v, a, b, xs, ys, x.s, x.p / 2, rfl, hc, fun m H' nm sm num => kk.calm ox sm hc num⟩
 rw [if_neg hf] at kk
 refine U0 (fun z => hf (by injection z)) ?_
 refine ⟨_, rfl, n, CN, dn, _, _, rfl, en, N.cl, N.n2, D5e _ _ _ _, rfl, _, rfl, J1 (fun hs => ?_) (fun hs => ?_)⟩
 . rw [if_pos (V.int.inj hs)] at kk
   exact ⟨_, rfl, c, v, a, b, xs, ys, rfl, hc, lx, kk⟩
 rw [if_neg fun z => hs (congrArg V.int z)] at kk
 refine ⟨_, rfl, n, CN, dn, _, _, rfl, en, N.cl, N.n1, B1u _ _ _ _, rfl, _, rfl, U0 (npl (by decide +kernel)) ?_⟩
 refine ⟨_, rfl, _, rfl, n, CN, dn, _, _, rfl, en, N.cl, N.n3, B6n _ _ _ _, _, rfl, n, CN, dn, _, _, rfl, en, N.cl, N.n4, A6u _ _ _ _, fun q dq m1 m2 me => A0yd m1 m2 me fun H4 s4 ra => ⟨rfl, ?_⟩⟩
 have szq : SzQ x.f := ⟨by omega, Int.lt_of_le_of_lt xf1 (by decide +kernel)⟩
 obtain ⟨q0, q1, wr⟩ := V2m ok szq xp0 xp1
 have ld := D0c szq x.p
 have wq := A6r (t := x.f) (s := x.p - 2 * v.fin (A6t x.f x.p)) (by omega)
 obtain ⟨dn4, en4⟩ := hn.same s4
 refine ⟨_, rfl, n, CN, dn4, _, _, rfl, en4, N.cl, N.n4, A6u _ _ _ _, _, _, rfl, rfl, d2, .inr ⟨c, v, a, b, xs, ys, q, rooE CQ x.f x.p (A6t x.f x.p), 0, x.p / 2, rfl, hc.same s4, ok, lx, rooV szq (by omega) (by omega) ld, ra, ⟨q0, q1⟩, wq.1, wr, by decide, by decide, kk.same s4⟩⟩
def Y5q (CN CC CT : Addr) : Sp := fun vs H Q E => ∃ c v a b xs ys, ∃ s p k : Int, vs = [.ref c, .int s, .int p, .int k] /\ A0n CC H c v a b xs ys /\ xs.length <= 900 /\ Z1 xs = xs /\ 0 <= s /\ s <= 1 /\ -20 <= k /\ k <= 20 /\
 A1r CN CC CT H c v b xs ys (if k = 0 then (A1q, ["void"]) else if k < 0 then (⟨.end_, s, 0, 0⟩, ["split"]) else (A1c v s (k * p), [])) Q E
theorem A0tk : C5 Q40 Q40 (A2 A0v) := scK
theorem A0gh {f f1 f2 f3 CN CC CT : Addr} {fd fd1 fd2 fd3 : FuncData} (D : Def K mg "power_of_nought" Q40 A0v f fd) (D_void : Def K mg "void" ["context"] B1m f1 fd1) (G_void : sI P w K mg base 4 f1 fd1 ["context"] (C1u CN CC CT)) (D_nought : Def K mg "nought" Q7 A0j f2 fd2) (G_nought : sI P w K mg base 3 f2 fd2 Q7 (A4u CN CC))
   (D_split_to_end : Def K mg "split_to_end" Q5 B0z f3 fd3) (G_split_to_end : sI P w K mg base 4 f3 fd3 Q5 (G1b CN CC CT)) : sI P w K mg base 5 f fd Q40 (Y5q CN CC CT) := by
 refine D.F.okE A0tk (fun vs H Q E h => ?_) (fun X cdv A outer s H vs Q E hX hr hx h => ?_)
 . obtain ⟨c, v, a, b, xs, ys, sg, p, n, rfl, _⟩ := h
   rfl
 subst hX
 obtain ⟨c, v, a, b, xs, ys, sg, p, n, rfl, hc, lx, ox, s0, s1, n0, n1, k⟩ := h
 refine ⟨_, (A3 (G4 (C7 G2 (pv 3) A1 (C6 _)) (A6 (B0 (C9 D_void G_void hr hx (A0 (pv 0) A5)))) D0) (A6 (B0 (V5 (C7 A7b (pv 3) A1 (C6 _)) (C9 D_nought G_nought hr hx (A0 (pv 0) (A0 (pv 1) (A0 (A9 G5 (pv 3) (pv 2)) A5)))) (C9 D_split_to_end G_split_to_end hr hx (A0 (pv 0) (A0 (pv 1) A5))))))), ?_⟩
 refine ⟨_, rfl, rfl, _, rfl, J1 (fun h => ?_) (fun h => ?_)⟩
 . rw [if_pos (V.int.inj h)] at k
   exact ⟨_, rfl, c, v, a, b, xs, ys, rfl, hc, lx, k⟩
 have hn : ¬ n = 0 := fun z => h (congrArg V.int z)
 rw [if_neg hn] at k
 refine ⟨_, rfl, _, _, rfl, rfl, _, rfl, J1 (fun h => ?_) (fun h => ?_)⟩
 . have h : n > 0 := h
   rw [if_neg (by omega)] at k
   exact ⟨_, rfl, _, rfl, _, rfl, _, rfl, _, _, rfl, rfl, A2u.ok (.inl ⟨by omega, by omega⟩), c, v, a, b, xs, ys, sg, _, rfl, hc, fun m H' nm sm num => k.calm ox sm hc num⟩
 have h : ¬ n > 0 := h
 rw [if_pos (by omega)] at k
 exact ⟨_, rfl, _, rfl, c, v, a, b, xs, ys, sg, rfl, hc, lx, s0, s1, k⟩
def A0qt (CN CC CT : Addr) : Sp := fun vs H Q E => ∃ c v a b xs ys n x, ∃ k : Int, vs = [.ref c, .ref n, .int k] /\ A0n CC H c v a b xs ys /\ v.Ok /\ xs.length <= 900 /\ Z1 xs = xs /\ V1 CN H n x /\ x.k = .plain /\ x.Ok /\ x.f < A4 24 /\ -60 <= x.p /\ x.p <= 60 /\ -20 <= k /\ k <= 20 /\ A1r CN CC CT H c v b xs ys (powR v x k) Q E
theorem scPow : C5 ["context", "one", "count", "sign", "ideal", "product", "exact"] Q48 (A2 B7q) := scK
theorem kp_b {k p : Int} (k0 : -20 <= k) (k1 : k <= 20) (p0 : -60 <= p) (p1 : p <= 60) : -1300 <= k * p /\ k * p <= 1300 := by
 have a : (k * p).natAbs <= 20 * 60 := by
   rw [Int.natAbs_mul]
   exact Nat.mul_le_mul (by omega) (by omega)
 omega
theorem A0rr {f f1 f2 f3 f4 f5 f6 f7 fR CN CC CB' CT CR CE CQ : Addr} {fd fd1 fd2 fd3 fd4 fd5 fd6 fd7 fdR : FuncData} {sEn : Stmt} {d0 : Value} {gP : List Value -> List Value -> List Value} {vP : List V -> List V -> List V} (D : Def K mg "to_power" Q48 B7q f fd) (D_need_number : Def K mg "need_number" ["thing"] A4p f1 fd1) (G_need_number : sI P w K mg base 1 f1 fd1 ["thing"] (C0f K CN CB'))
   (D_need_count : Def K mg "need_count" Q35 B7z f2 fd2) (G_need_count : sI P w K mg base 2 f2 fd2 Q35 V3h) (D_nothing : Def K mg "nothing" [] Z0 f3 fd3) (G_nothing : sI P w K mg base 3 f3 fd3 [] (A1w CN)) (D_power_of_end : Def K mg "power_of_end" ["context", "sign", "count"] sEn f4 fd4)
   (D_power_of_nought : Def K mg "power_of_nought" Q40 A0v f5 fd5) (G_power_of_nought : sI P w K mg base 5 f5 fd5 Q40 (Y5q CN CC CT)) (D_product_of : Def K mg "product_of" Q21 A0d f6 fd6) (G_product_of : sI P w K mg base 1 f6 fd6 Q21 B1y)
   (D_settled : Def K mg "settled" Q13 A0b f7 fd7) (G_settled : sI P w K mg base 6 f7 fd7 Q13 (A4b CN CC CT CR)) (N : Num K mg CN) (MR : J5p P w K mg base CR fR fdR d0 gP vP) (R : G2r K mg CR CE) (O : Own mg) : sI P w K mg base 7 f fd Q48 (A0qt CN CC CT) := by
 have G_power_of_end : sI P w K mg base 1 f4 fd4 ["context", "sign", "count"] (fun _ _ _ _ => False) := A8.never
 refine D.F.okE scPow (fun vs H Q E h => ?_) (fun X cdv A outer s H vs Q E hX hr hx h => ?_)
 . obtain ⟨c, v, a, b, xs, ys, n, x, k, rfl, _⟩ := h
   rfl
 subst hX
 obtain ⟨c, v, a, b, xs, ys, n, x, k, rfl, hc, ok, lx, ox, hn, hk, xo, f24, p0, p1, k0, k1, kk⟩ := h
 refine ⟨_, (A3 (B5 (V7 (C9 D_need_number G_need_number hr hx (A0 (pv 1) A5)))) (A3 (B5 (V7 (C9 D_need_count G_need_count hr hx (A0 (pv 2) (A0 A1 A5))))) (A3 (B5 (G4 (C7 G2 (D6 (pv 1) rfl) D5 (C6 _)) (A6 (B0 (A3f D_nothing G_nothing hr hx))) D0)) (A3 (B5 (D3 (i := 3) scPow.nd rfl (Or.inl rfl) (V5 (C7 G2 (A9 J0 (pv 2) A1) A1 (C6 _)) (D6 (pv 1) rfl) A1))) (A3 (B5 (G4 (C7 G2 (D6 (pv 1) rfl) D5 (C6 _)) (A6 (B0 (C9 D_power_of_end G_power_of_end hr hx (A0 (pv 0) (A0 (pv 3) (A0 (pv 2) A5)))))) D0)) (A3 (B5 (G4 (C7 G2 (D6 (pv 1) rfl) A1 (C6 _)) (A6 (B0 (C9 D_power_of_nought G_power_of_nought hr hx (A0 (pv 0) (A0 (pv 3) (A0 (D6 (pv 1) rfl) (A0 (pv 2) A5))))))) D0)) (A3 (B5 (D3 (i := 4) scPow.nd rfl (Or.inl rfl) (A9 G5 (pv 2) (D6 (pv 1) rfl)))) (A3 (B5 (D3 (i := 5) scPow.nd rfl (Or.inl rfl) (C9 D_product_of G_product_of hr hx (A0 (D6 (pv 1) rfl) (A0 (J3 A7a (by rfl) O.abs_ boot_abs (A0 (pv 2) A5)) A5))))) (A3 (B5 (D3 (i := 6) scPow.nd rfl (Or.inl rfl) (V5 (C7 B6s (pv 2) A1 (C6 _)) (A6x MR.m MR.g hr R.g MR.b3 .nil hx (A0 A1 (A0 (pv 5) (A0 (pv 4) A5)))) (A6x MR.m MR.g hr R.g MR.b3 .nil hx (A0 (pv 5) (A0 A1 (A0 (pv 4) A5))))))) (A6 (B0 (C9 D_settled G_settled hr hx (A0 (pv 0) (A0 (pv 3) (A0 (pv 6) (A0 (pv 4) A5)))))))))))))))), ?_⟩
 obtain ⟨dn, en⟩ := id hn
 have npl : ∀ {z : Str}, Kd.plain.str ≠ z -> ¬ V.str x.k.str = V.str z := fun hz e => by
   rw [hk] at e
   exact hz (by injection e)
 refine ⟨fun σ' H' => H' = H /\ σ' = [sr c, sr n, si k, none, none, none, none], ⟨_, rfl, _, rfl, .inl ⟨n, _, _, _, _, rfl, hn, rfl, rfl⟩⟩, ?_⟩
 rintro σ' H1 ⟨rfl, rfl⟩
 refine ⟨fun σ' H' => H' = H1 /\ σ' = [sr c, sr n, si k, none, none, none, none], ⟨_, rfl, k, 20, rfl, by omega, by omega, rfl, rfl⟩, ?_⟩
 rintro σ' H2 ⟨rfl, rfl⟩
 refine ⟨fun σ' H' => H' = H2 /\ σ' = [sr c, sr n, si k, none, none, none, none], ⟨_, rfl, n, CN, dn, _, _, rfl, en, N.cl, N.n1, B1u _ _ _ _, rfl, _, rfl, U0 (npl (by decide +kernel)) ⟨rfl, rfl⟩⟩, ?_⟩
 rintro σ' H3 ⟨rfl, rfl⟩
 have so := A0qr (k := k) xo.s0 xo.s1
 refine ⟨fun σ' H' => H' = H3 /\ σ' = [sr c, sr n, si k, si (sgI x.s k), none, none, none], ?_, ?_⟩
 . refine ⟨_, rfl, _, _, rfl, rfl, (by decide : (0 : Int) < 2), rfl, _, rfl, ?_⟩
   by_cases h2 : k % 2 = 1
   . refine A0p (congrArg V.int h2) ⟨_, rfl, n, CN, dn, _, _, rfl, en, N.cl, N.n2, D5e _ _ _ _, rfl, ?_⟩
     show _ = [sr c, sr n, si k, si (sgI x.s k), none, none, none]
     unfold sgI
     rw [if_pos h2]
     rfl
   . refine U0 (fun z => h2 (by injection z)) ⟨rfl, ?_⟩
     show _ = [sr c, sr n, si k, si (sgI x.s k), none, none, none]
     unfold sgI
     rw [if_neg h2]
     rfl
 rintro σ' H4 ⟨rfl, rfl⟩
 refine ⟨fun σ' H' => H' = H4 /\ σ' = [sr c, sr n, si k, si (sgI x.s k), none, none, none], ⟨_, rfl, n, CN, dn, _, _, rfl, en, N.cl, N.n1, B1u _ _ _ _, rfl, _, rfl, U0 (npl (by decide +kernel)) ⟨rfl, rfl⟩⟩, ?_⟩
 rintro σ' H5 ⟨rfl, rfl⟩
 unfold powR at kk
 refine ⟨fun σ' H' => H' = H5 /\ x.f ≠ 0 /\ σ' = [sr c, sr n, si k, si (sgI x.s k), none, none, none], ?_, ?_⟩
 . refine ⟨_, rfl, n, CN, dn, _, _, rfl, en, N.cl, N.n3, B6n _ _ _ _, rfl, _, rfl, J1 (fun h0 => ?_) (fun h0 => ⟨rfl, fun z => h0 (congrArg V.int z), rfl⟩)⟩
   rw [if_pos (V.int.inj h0)] at kk
   exact ⟨_, rfl, _, rfl, _, rfl, n, CN, dn, _, _, rfl, en, N.cl, N.n4, A6u _ _ _ _, _, rfl, c, v, a, b, xs, ys, _, x.p, k, rfl, hc, lx, ox, so.1, so.2, k0, k1, kk⟩
 rintro σ' H6 ⟨rfl, hf, rfl⟩
 rw [if_neg hf] at kk
 have xp0 := xo.p0; have xp1 := xo.p1; have xf0 := xo.f0; have xf1 := xo.f1
 refine ⟨fun σ' H' => H' = H6 /\ σ' = [sr c, sr n, si k, si (sgI x.s k), si (k * x.p), none, none], ⟨_, rfl, _, rfl, n, CN, dn, _, _, rfl, en, N.cl, N.n4, A6u _ _ _ _, _, _, rfl, rfl, A2u.ok (.inl ⟨by omega, by omega⟩), rfl, rfl⟩, ?_⟩
 rintro σ' H7 ⟨rfl, rfl⟩
 refine ⟨fun σ' H' => H' = H7 /\ σ' = [sr c, sr n, si k, si (sgI x.s k), si (k * x.p), si (A6g x.f k), none], ?_, ?_⟩
 . have e60 : ((10 ^ 60 : Nat) : Int) = 10 ^ 60 := by decide +kernel
   have b : x.f.toNat < 2 ^ 200 := Nat.lt_of_lt_of_le (m := 10 ^ 60) (by omega) (by decide +kernel)
   refine ⟨_, rfl, n, CN, dn, _, _, rfl, en, N.cl, N.n3, B6n _ _ _ _, _, rfl, k, rfl, x.f.toNat, k.natAbs, 200, ?_, b, by omega, rfl, rfl⟩
   show [V.int x.f, V.int (if k < 0 then -k else k)] = [V.int (x.f.toNat : Int), V.int (k.natAbs : Int)]
   rw [Int.toNat_of_nonneg xf0]
   congr 3
   split <;> omega
 rintro σ' H8 ⟨rfl, rfl⟩
 have sz := U1d (k := k) (show 0 < x.f by omega) f24 k0 k1
 have kb := kp_b k0 k1 p0 p1
 by_cases hk0 : k < 0
 . rw [if_pos hk0] at kk
   have ri := B7u (v := v) ok szl_one sz kb.1 kb.2
   have ld := A5h szl_one.sz sz.sz (k * x.p)
   refine ⟨fun σ' H' => ∃ q, C8 H8 H' /\ B1z CR H' q 1 (A6g x.f k) (k * x.p) /\ σ' = [sr c, sr n, si k, si (sgI x.s k), si (k * x.p), si (A6g x.f k), sr q], ?_, ?_⟩
   . exact ⟨_, rfl, _, _, rfl, rfl, _, rfl, A0p hk0 ⟨_, rfl, _, rfl, fun q dq m1 m2 me => J5e m1 m2 me fun H9 s9 ra => ⟨rfl, q, s9, ra, rfl⟩⟩⟩
   rintro σ' H9 ⟨q, s9, ra, rfl⟩
   exact ⟨_, rfl, _, rfl, _, rfl, _, rfl, c, v, a, b, xs, ys, q, 1, A6g x.f k, k * x.p, _, sgI x.s k, k * x.p, rfl, hc.same s9, ok, lx, ra, A4n, sz.sz, ld, ri.1.1, ri.1.2, so.1, so.2, kk.same s9⟩
 rw [if_neg hk0] at kk
 have ri := B7u (v := v) ok sz szl_one kb.1 kb.2
 have ld := A5h sz.sz szl_one.sz (k * x.p)
 refine ⟨fun σ' H' => ∃ q, C8 H8 H' /\ B1z CR H' q (A6g x.f k) 1 (k * x.p) /\ σ' = [sr c, sr n, si k, si (sgI x.s k), si (k * x.p), si (A6g x.f k), sr q], ?_, ?_⟩
 . exact ⟨_, rfl, _, _, rfl, rfl, _, rfl, U0 hk0 ⟨_, rfl, _, rfl, fun q dq m1 m2 me => J5e m1 m2 me fun H9 s9 ra => ⟨rfl, q, s9, ra, rfl⟩⟩⟩
 rintro σ' H9 ⟨q, s9, ra, rfl⟩
 exact ⟨_, rfl, _, rfl, _, rfl, _, rfl, c, v, a, b, xs, ys, q, A6g x.f k, 1, k * x.p, _, sgI x.s k, k * x.p, rfl, hc.same s9, ok, lx, ra, sz.sz, A4n, ld, ri.1.1, ri.1.2, so.1, so.2, kk.same s9⟩
abbrev A4h : Stmt := (top 92)
abbrev A5k : Stmt := (top 93)
abbrev B1r : Stmt := (top 94)
abbrev A2t : Stmt := (top 95)
abbrev A0c : Stmt := (top 96)
abbrev B7w : Stmt := (top 97)
abbrev B7p : Stmt := (top 98)
abbrev A4g : Stmt := (top 99)
abbrev A7v : Stmt := (top 100)
theorem V3w {a b : Int} (a0 : 0 <= a) (a1 : a <= 1) (b0 : 0 <= b) (b1 : b <= 1) : (a + b) % 2 = A0h a b := by
 unfold A0h
 split <;> omega
theorem B9w : Z1 [] = [] := by decide +kernel
theorem A6w : Z1 (["void"] : List Str) = (["void"] : List Str) := by decide +kernel
theorem D9n : Z1 (["split"] : List Str) = (["split"] : List Str) := by decide +kernel
structure J5 (H : Hp) (q : Addr) (x : Nm) : Prop where
 e : H q = some (.tup x.pv)
 o : x.Ok
 k : x.k = .plain
theorem J5.same {H H' : Hp} {q : Addr} {x : Nm} (h : J5 H q x) (s : C8 H H') : J5 H' q x := ⟨s _ _ h.e, h.o, h.k⟩
structure B8d (H : Hp) (q : Addr) (v : Cv) : Prop where
 e : H q = some (.tup (frV v.r v.y v.l v.m))
 ok : C7s v.r v.l v.m
theorem B8d.same {H H' : Hp} {q : Addr} {v : Cv} (h : B8d H q v) (s : C8 H H') : B8d H' q v := ⟨s _ _ h.e, h.ok⟩
theorem B8d.cv {H : Hp} {q : Addr} {v : Cv} (h : B8d H q v) : v.Ok := ⟨h.ok.r1, h.ok.r2, h.ok.l1, h.ok.l2, h.ok.m1, h.ok.m2⟩
theorem G1s {W r : Int} (h0 : 0 <= W) (hr : 1 <= r) : V4 W > r ↔ W >= A4 r := by
 have tp := D4 r
 by_cases z : W = 0
 . subst z
   have : V4 0 = 1 := by decide +kernel
   constructor
   . intro h; omega
   . intro h; omega
 obtain ⟨n, rfl⟩ : ∃ n : Nat, W = (n : Int) := ⟨W.toNat, by omega⟩
 obtain ⟨j, h1, h2⟩ := B5w n (by omega)
 rw [A7t h2 h1]
 obtain ⟨k, rfl⟩ : ∃ k : Nat, r = (k : Int) := ⟨r.toNat, by omega⟩
 have e : A4 (k : Int) = ((10 ^ k : Nat) : Int) := by unfold A4; rw [Int.toNat_natCast]
 rw [e]
 constructor
 . intro h
   exact Int.ofNat_le.mpr (Nat.le_trans (Nat.pow_le_pow_right (by decide) (by omega)) h1)
 intro h
 have h3 : 10 ^ k <= n := Int.ofNat_le.mp h
 have : 10 ^ k < 10 ^ (j + 1) := Nat.lt_of_le_of_lt h3 h2
 have := (Nat.pow_lt_pow_iff_right (by decide : 1 < 10)).mp this
 omega
theorem C7p {f : Int} (h0 : 0 <= f) (h : f ≠ 0) (h1 : f <= 10 ^ 60 - 1) : SzL f := by
 have e : (10 : Int) ^ 60 <= A4 500 := by decide +kernel
 exact ⟨by omega, by omega⟩
def J4j (x1 x2 : Nm) : Nm × List Str := if x1.f = 0 then (A1q, ["void"]) else (⟨.end_, A0h x1.s x2.s, 0, 0⟩, ["split"])
noncomputable def ovR (v : Cv) (x1 x2 : Nm) : Nm × List Str := if x2.f = 0 then J4j x1 x2 else if x1.f = 0 then (A1c v (A0h x1.s x2.s) (x1.p - x2.p), []) else setL v (A0h x1.s x2.s) (.rat x1.f x2.f (x1.p - x2.p)) (x1.p - x2.p)
noncomputable def whR (v : Cv) (x1 x2 : Nm) : Nm × List Str := if x2.f = 0 then J4j x1 x2 else if J9 x1 x2 >= A4 v.r then (A1q, ["void"]) else if J9 x1 x2 = 0 then (A1c v (A0h x1.s x2.s) (A0u (x1.p - x2.p) 0), []) else setL v (A0h x1.s x2.s) (.rat (J9 x1 x2) 1 0) (A0u (x1.p - x2.p) 0)
noncomputable def rsR (v : Cv) (x1 x2 : Nm) : Nm × List Str := if x2.f = 0 then (A1q, ["void"]) else if J9 x1 x2 >= A4 v.r then (A1q, ["void"]) else if (Z9 x1 x2).f = 0 then (A1c v x1.s (V9 x1 x2), []) else setL v x1.s (.rat (Z9 x1 x2).f 1 (V9 x1 x2)) (V9 x1 x2)
theorem J4m {t b n : Int} (ht : SzL t) (hb : SzL b) : (Lv.rat t b n).Ok := ⟨ht.sz, hb.sz⟩
def B5n : Sp := fun vs H Q _ => vs = [] /\ ∀ q H', C8 H H' -> B6q H' q A1q ["void"] -> Q (.ref q) H'
theorem A0gx : C5 [] [] (A2 A4h) := scK
theorem Y8g {f : Addr} {fd : FuncData} (D : Def K mg "_law_void" [] A4h f fd) : sI P w K mg base 1 f fd [] B5n := by
 refine D.F.okE A0gx (fun vs H Q E h => ?_) (fun X cdv A outer s H vs Q E hX hr hx h => ?_)
 . obtain ⟨rfl, _⟩ := h
   rfl
 subst hX
 obtain ⟨rfl, k⟩ := h
 refine ⟨_, (A6 (B0 (U5 (A0 (U5 (A0 D5 (A0 A1 (A0 A1 (A0 A1 A5))))) (A0 (U4 (A0 D5 A5)) A5))))), ?_⟩
 refine ⟨D7 (show 4 <= 1000 by decide), fun a na => ⟨D7 (show 1 <= 1000 by decide), fun b nb => ⟨D7 (show 2 <= 1000 by decide), fun q nq => ?_⟩⟩⟩
 exact k q _ ((C8.upd na).trans ((C8.upd nb).trans (C8.upd nq))) ⟨a, b, A7, ((C8.upd nb).trans (C8.upd nq)) _ _ A7, (C8.upd nq) _ _ A7⟩
def C8n : Sp := fun vs H Q _ => ∃ s : Int, vs = [.int s] /\ ∀ q H', C8 H H' -> B6q H' q ⟨.end_, s, 0, 0⟩ ["split"] -> Q (.ref q) H'
theorem Y7p : C5 ["_law_sign"] ["_law_sign"] (A2 A5k) := scK
theorem V7c {f : Addr} {fd : FuncData} (D : Def K mg "_law_split" ["_law_sign"] A5k f fd) : sI P w K mg base 1 f fd ["_law_sign"] C8n := by
 refine D.F.okE Y7p (fun vs H Q E h => ?_) (fun X cdv A outer s H vs Q E hX hr hx h => ?_)
 . obtain ⟨s, rfl, _⟩ := h
   rfl
 subst hX
 obtain ⟨sg, rfl, k⟩ := h
 refine ⟨_, (A6 (B0 (U5 (A0 (U5 (A0 D5 (A0 (pv 0) (A0 A1 (A0 A1 A5))))) (A0 (U4 (A0 D5 A5)) A5))))), ?_⟩
 refine ⟨_, rfl, D7 (show 4 <= 1000 by decide), fun a na => ⟨D7 (show 1 <= 1000 by decide), fun b nb => ⟨D7 (show 2 <= 1000 by decide), fun q nq => ?_⟩⟩⟩
 exact k q _ ((C8.upd na).trans ((C8.upd nb).trans (C8.upd nq))) ⟨a, b, A7, ((C8.upd nb).trans (C8.upd nq)) _ _ A7, (C8.upd nq) _ _ A7⟩
def G1p : Sp := fun vs H Q _ => ∃ fq v q1 q2 x1 x2, vs = [.ref fq, .ref q1, .ref q2] /\ B8d H fq v /\ J5 H q1 x1 /\ J5 H q2 x2 /\ ∀ q H', C8 H H' -> B6q H' q (ovR v x1 x2).1 (Z1 (ovR v x1 x2).2) -> Q (.ref q) H'
theorem scLOver : C5 ["_law_frame_here", "_law_one", "_law_other", "_law_sign", "_law_ten_here"] Q8 (A2 B1r) := scK
theorem Y4c {f f1 f2 f3 f4 : Addr} {fd fd1 fd2 fd3 fd4 : FuncData} (D : Def K mg "_law_over" Q8 B1r f fd) (D_l_void : Def K mg "_law_void" [] A4h f1 fd1) (G_l_void : sI P w K mg base 1 f1 fd1 [] B5n)
   (D_l_split : Def K mg "_law_split" ["_law_sign"] A5k f2 fd2) (G_l_split : sI P w K mg base 1 f2 fd2 ["_law_sign"] C8n)
   (D_l_nought : Def K mg "_law_nought" Q11 A0f f3 fd3) (G_l_nought : sI P w K mg base 1 f3 fd3 Q11 A4a)
   (D_l_settled : Def K mg "_law_settled" Q14 Y7 f4 fd4) (G_l_settled : sI P w K mg base 4 f4 fd4 Q14 A2a) (O : Own mg) : sI P w K mg base 5 f fd Q8 G1p := by
 refine D.F.okE scLOver (fun vs H Q E h => ?_) (fun X cdv A outer s H vs Q E hX hr hx h => ?_)
 . obtain ⟨fq, v, q1, q2, x1, x2, rfl, _⟩ := h
   rfl
 subst hX
 obtain ⟨fq, v, q1, q2, x1, x2, rfl, fr, a1, a2, k⟩ := h
 refine ⟨_, (A3 (B5 (D3 (i := 3) scLOver.nd rfl (Or.inl rfl) (A9 J0 (A9 J4 (D9 G3 (pv 1) A1 (fun _ _ => rfl)) (D9 G3 (pv 2) A1 (fun _ _ => rfl))) A1))) (A3 (B5 (D3 (i := 4) scLOver.nd rfl (Or.inl rfl) (A9 J8 (D9 G3 (pv 1) A1 (fun _ _ => rfl)) (D9 G3 (pv 2) A1 (fun _ _ => rfl))))) (A3 (B5 (G4 (C7 G2 (D9 G3 (pv 2) A1 (fun _ _ => rfl)) A1 (C6 _)) (A6 (B0 (V5 (C7 G2 (D9 G3 (pv 1) A1 (fun _ _ => rfl)) A1 (C6 _)) (A3f D_l_void G_l_void hr hx) (C9 D_l_split G_l_split hr hx (A0 (pv 3) A5))))) D0)) (A3 (B5 (G4 (C7 G2 (D9 G3 (pv 1) A1 (fun _ _ => rfl)) A1 (C6 _)) (A6 (B0 (C9 D_l_nought G_l_nought hr hx (A0 (pv 0) (A0 (pv 3) (A0 (pv 4) A5)))))) D0)) (A6 (B0 (C9 D_l_settled G_l_settled hr hx (A0 (pv 0) (A0 (pv 3) (A0 (U5 (A0 (D9 G3 (pv 1) A1 (fun _ _ => rfl)) (A0 (D9 G3 (pv 2) A1 (fun _ _ => rfl)) (A0 (pv 4) (A0 A3k A5))))) (A0 (pv 4) A5))))))))))), ?_⟩
 have o1 := a1.o; have o2 := a2.o
 have s10 := o1.s0; have s11 := o1.s1; have s20 := o2.s0; have s21 := o2.s1
 have p10 := o1.p0; have p11 := o1.p1; have p20 := o2.p0; have p21 := o2.p1
 have f10 := o1.f0; have f11 := o1.f1; have f20 := o2.f0; have f21 := o2.f1
 have ok := fr.cv
 have us := C1h x1.s x2.s
 have z4 : 4 <= sizeLine := D7 (by decide)
 refine ⟨fun σ' H' => H' = H /\ σ' = [sr fq, sr q1, sr q2, si (A0h x1.s x2.s), none], ?_, ?_⟩
 . refine ⟨_, rfl, q1, _, _, _, rfl, rfl, SqT.of a1.e, B7 (j := 0) rfl, _, rfl, q2, _, _, _, rfl, rfl, SqT.of a2.e, B7 (j := 0) rfl, _, _, rfl, rfl, _, _, rfl, rfl, (by decide : (0 : Int) < 2), rfl, ?_⟩
   rw [<- V3w s10 s11 s20 s21]
   rfl
 rintro σ' H1 ⟨rfl, rfl⟩
 refine ⟨fun σ' H' => H' = H1 /\ σ' = [sr fq, sr q1, sr q2, si (A0h x1.s x2.s), si (x1.p - x2.p)], ⟨_, rfl, q1, _, _, _, rfl, rfl, SqT.of a1.e, B7 (j := 2) rfl, _, rfl, q2, _, _, _, rfl, rfl, SqT.of a2.e, B7 (j := 2) rfl, _, _, rfl, rfl, rfl, rfl⟩, ?_⟩
 rintro σ' H2 ⟨rfl, rfl⟩
 unfold ovR J4j at k
 refine ⟨fun σ' H' => H' = H2 /\ x2.f ≠ 0 /\ σ' = [sr fq, sr q1, sr q2, si (A0h x1.s x2.s), si (x1.p - x2.p)], ?_, ?_⟩
 . refine ⟨_, rfl, q2, _, _, _, rfl, rfl, SqT.of a2.e, B7 (j := 1) rfl, rfl, _, rfl, J1 (fun h => ?_) (fun h => ⟨rfl, fun z => h (congrArg V.int z), rfl⟩)⟩
   rw [if_pos (V.int.inj h)] at k
   refine ⟨_, rfl, q1, _, _, _, rfl, rfl, SqT.of a1.e, B7 (j := 1) rfl, rfl, _, rfl, J1 (fun h2 => ?_) (fun h2 => ?_)⟩
   . rw [if_pos (V.int.inj h2), A6w] at k
     exact ⟨rfl, k⟩
   . rw [if_neg fun z => h2 (congrArg V.int z), D9n] at k
     exact ⟨_, rfl, _, rfl, k⟩
 rintro σ' H3 ⟨rfl, hf2, rfl⟩
 rw [if_neg hf2] at k
 refine ⟨fun σ' H' => H' = H3 /\ x1.f ≠ 0 /\ σ' = [sr fq, sr q1, sr q2, si (A0h x1.s x2.s), si (x1.p - x2.p)], ?_, ?_⟩
 . refine ⟨_, rfl, q1, _, _, _, rfl, rfl, SqT.of a1.e, B7 (j := 1) rfl, rfl, _, rfl, J1 (fun h => ?_) (fun h => ⟨rfl, fun z => h (congrArg V.int z), rfl⟩)⟩
   rw [if_pos (V.int.inj h), B9w] at k
   exact ⟨_, rfl, _, rfl, _, rfl, fq, v.r, v.y, v.l, v.m, _, _, rfl, fr.e, k⟩
 rintro σ' H4 ⟨rfl, hf1, rfl⟩
 rw [if_neg hf1] at k
 have t1 := C7p f10 hf1 f11
 have t2 := C7p f20 hf2 f21
 have ri := B7u (v := v) (n := x1.p - x2.p) ok t1 t2 (by omega) (by omega)
 refine ⟨_, rfl, _, rfl, _, rfl, q1, _, _, _, rfl, rfl, SqT.of a1.e, B7 (j := 1) rfl, _, rfl, q2, _, _, _, rfl, rfl, SqT.of a2.e, B7 (j := 1) rfl, _, rfl, z4, fun vq nv => ?_⟩
 have u := C8.upd (o := .tup (Lv.vs (.rat x1.f x2.f (x1.p - x2.p)))) nv
 exact ⟨_, rfl, fq, v.r, v.y, v.l, v.m, _, vq, .rat x1.f x2.f (x1.p - x2.p), _, rfl, u _ _ fr.e, fr.ok, us.1, us.2, A7, J4m t1 t2, ri.1, ri.2.1, ri.2.2, fun q H' s' => k q H' (u.trans s')⟩
def C1j : Sp := fun vs H Q _ => ∃ q1 q2 x1 x2, vs = [.ref q1, .ref q2] /\ J5 H q1 x1 /\ J5 H q2 x2 /\ x2.f ≠ 0 /\ ∀ q H', C8 H H' -> H' q = some (.tup [.int (J9 x1 x2), .int (Z9 x1 x2).f]) -> Q (.ref q) H'
theorem scLParted : C5 ["_law_one", "_law_other", "_law_ten_here"] Q31 (A2 A2t) := scK
theorem U0u {f f1 : Addr} {fd fd1 : FuncData} (D : Def K mg "_law_parted" Q31 A2t f fd) (D_l_ten : Def K mg "_law_ten" Q10 B0y f1 fd1) (G_l_ten : sI P w K mg base 1 f1 fd1 Q10 B7n) (O : Own mg) : sI P w K mg base 2 f fd Q31 C1j := by
 refine D.F.okE scLParted (fun vs H Q E h => ?_) (fun X cdv A outer s H vs Q E hX hr hx h => ?_)
 . obtain ⟨q1, q2, x1, x2, rfl, _⟩ := h
   rfl
 subst hX
 obtain ⟨q1, q2, x1, x2, rfl, a1, a2, hf, k⟩ := h
 refine ⟨_, (A3 (B5 (D3 (i := 2) scLParted.nd rfl (Or.inl rfl) (J3 (A1y rfl) (by rfl) O.min_ boot_min (A0 (D9 G3 (pv 0) A1 (fun _ _ => rfl)) (A0 (D9 G3 (pv 1) A1 (fun _ _ => rfl)) A5))))) (A6 (B0 (J3 C0a (by rfl) O.divmod_ PyProof.Rows.boot_divmod (A0 (A9 G5 (D9 G3 (pv 0) A1 (fun _ _ => rfl)) (C9 D_l_ten G_l_ten hr hx (A0 (A9 J8 (D9 G3 (pv 0) A1 (fun _ _ => rfl)) (pv 2)) A5))) (A0 (A9 G5 (D9 G3 (pv 1) A1 (fun _ _ => rfl)) (C9 D_l_ten G_l_ten hr hx (A0 (A9 J8 (D9 G3 (pv 1) A1 (fun _ _ => rfl)) (pv 2)) A5))) A5)))))), ?_⟩
 have o1 := a1.o; have o2 := a2.o
 have p10 := o1.p0; have p11 := o1.p1; have p20 := o2.p0; have p21 := o2.p1
 obtain ⟨b1, b2, b3⟩ := D8w x1 x2
 have hs := B5m (q := V9 x1 x2) o2 hf (by omega)
 have mul : ∀ x : Nm, x.Ok -> ∀ e : Int, e <= 1500 -> IntMulOk x.f (A4 e) := fun x ok e he => by
   by_cases z : x.f = 0
   . rw [z]; exact A2u.ok (.inl ⟨by decide, by decide⟩)
   . exact B1c (G1m ok.f0 z ok.f1) he
 refine ⟨fun σ' H' => H' = H /\ σ' = [sr q1, sr q2, si (V9 x1 x2)], ⟨_, rfl, q1, _, _, _, rfl, rfl, SqT.of a1.e, B7 (j := 2) rfl, _, rfl, q2, _, _, _, rfl, rfl, SqT.of a2.e, B7 (j := 2) rfl, _, _, rfl, rfl, rfl⟩, ?_⟩
 rintro σ' H1 ⟨rfl, rfl⟩
 refine ⟨_, rfl, q1, _, _, _, rfl, rfl, SqT.of a1.e, B7 (j := 1) rfl, _, rfl, q1, _, _, _, rfl, rfl, SqT.of a1.e, B7 (j := 2) rfl, _, rfl, _, _, rfl, rfl, _, rfl, by omega, by omega, _, _, rfl, rfl, mul x1 o1 _ (by omega), _, rfl, q2, _, _, _, rfl, rfl, SqT.of a2.e, B7 (j := 1) rfl, _, rfl, q2, _, _, _, rfl, rfl, SqT.of a2.e, B7 (j := 2) rfl, _, rfl, _, _, rfl, rfl, _, rfl, by omega, by omega, _, _, rfl, rfl, mul x2 o2 _ (by omega), _, _, rfl, ⟨hs.1, Nat.lt_trans hs.log (by decide)⟩, fun q nq => k q _ (C8.upd nq) ?_⟩
 rw [A7, (G1y o1 o2 hf).2.2.2.2]
 rfl
def B9x : Sp := fun vs H Q _ => ∃ fq v q1 q2 x1 x2, vs = [.ref fq, .ref q1, .ref q2] /\ B8d H fq v /\ J5 H q1 x1 /\ J5 H q2 x2 /\ ∀ q H', C8 H H' -> B6q H' q (whR v x1 x2).1 (Z1 (whR v x1 x2).2) -> Q (.ref q) H'
theorem scLWholeOver : C5 ["_law_frame_here", "_law_one", "_law_other", "_law_sign", "_law_whole", "_law_ideal"] Q8 (A2 A0c) := scK
theorem D5c {f f1 f2 f3 f4 f5 f6 : Addr} {fd fd1 fd2 fd3 fd4 fd5 fd6 : FuncData} (D : Def K mg "_law_whole_over" Q8 A0c f fd) (D_l_over : Def K mg "_law_over" Q8 B1r f1 fd1) (G_l_over : sI P w K mg base 5 f1 fd1 Q8 G1p)
   (D_l_parted : Def K mg "_law_parted" Q31 A2t f2 fd2) (G_l_parted : sI P w K mg base 2 f2 fd2 Q31 C1j)
   (D_l_nought : Def K mg "_law_nought" Q11 A0f f3 fd3) (G_l_nought : sI P w K mg base 1 f3 fd3 Q11 A4a)
   (D_l_count : Def K mg "_law_count" Q16 A2j f4 fd4) (G_l_count : sI P w K mg base 1 f4 fd4 Q16 B1n)
   (D_l_void : Def K mg "_law_void" [] A4h f5 fd5) (G_l_void : sI P w K mg base 1 f5 fd5 [] B5n)
   (D_l_settled : Def K mg "_law_settled" Q14 Y7 f6 fd6) (G_l_settled : sI P w K mg base 4 f6 fd6 Q14 A2a) (O : Own mg) : sI P w K mg base 6 f fd Q8 B9x := by
 refine D.F.okE scLWholeOver (fun vs H Q E h => ?_) (fun X cdv A outer s H vs Q E hX hr hx h => ?_)
 . obtain ⟨fq, v, q1, q2, x1, x2, rfl, _⟩ := h
   rfl
 subst hX
 obtain ⟨fq, v, q1, q2, x1, x2, rfl, fr, a1, a2, k⟩ := h
 refine ⟨_, (A3 (B5 (D3 (i := 3) scLWholeOver.nd rfl (Or.inl rfl) (A9 J0 (A9 J4 (D9 G3 (pv 1) A1 (fun _ _ => rfl)) (D9 G3 (pv 2) A1 (fun _ _ => rfl))) A1))) (A3 (B5 (G4 (C7 G2 (D9 G3 (pv 2) A1 (fun _ _ => rfl)) A1 (C6 _)) (A6 (B0 (C9 D_l_over G_l_over hr hx (A0 (pv 0) (A0 (pv 1) (A0 (pv 2) A5)))))) D0)) (A3 (B5 (D3 (i := 4) scLWholeOver.nd rfl (Or.inl rfl) (D9 G3 (C9 D_l_parted G_l_parted hr hx (A0 (pv 1) (A0 (pv 2) A5))) A1 (fun _ _ => rfl)))) (A3 (B5 (D3 (i := 5) scLWholeOver.nd rfl (Or.inl rfl) (J3 (Y3 rfl) (by rfl) O.max_ boot_max (A0 A1 (A0 (A9 J8 (D9 G3 (pv 1) A1 (fun _ _ => rfl)) (D9 G3 (pv 2) A1 (fun _ _ => rfl))) A5))))) (A3 (B5 (G4 (C7 G2 (pv 4) A1 (C6 _)) (A6 (B0 (C9 D_l_nought G_l_nought hr hx (A0 (pv 0) (A0 (pv 3) (A0 (pv 5) A5)))))) D0)) (A3 (B5 (G4 (C7 A7b (C9 D_l_count G_l_count hr hx (A0 (pv 4) A5)) (D9 G3 (pv 0) A1 (fun _ _ => rfl)) (C6 _)) (A6 (B0 (A3f D_l_void G_l_void hr hx))) D0)) (A6 (B0 (C9 D_l_settled G_l_settled hr hx (A0 (pv 0) (A0 (pv 3) (A0 (U5 (A0 (pv 4) (A0 A1 (A0 A1 (A0 A3k A5))))) (A0 (pv 5) A5))))))))))))), ?_⟩
 have o1 := a1.o; have o2 := a2.o
 have s10 := o1.s0; have s11 := o1.s1; have s20 := o2.s0; have s21 := o2.s1
 have p10 := o1.p0; have p11 := o1.p1; have p20 := o2.p0; have p21 := o2.p1
 have f10 := o1.f0; have f11 := o1.f1; have f20 := o2.f0; have f21 := o2.f1
 have ok := fr.cv
 have us := C1h x1.s x2.s
 have z4 : 4 <= sizeLine := D7 (by decide)
 refine ⟨fun σ' H' => H' = H /\ σ' = [sr fq, sr q1, sr q2, si (A0h x1.s x2.s), none, none], ?_, ?_⟩
 . refine ⟨_, rfl, q1, _, _, _, rfl, rfl, SqT.of a1.e, B7 (j := 0) rfl, _, rfl, q2, _, _, _, rfl, rfl, SqT.of a2.e, B7 (j := 0) rfl, _, _, rfl, rfl, _, _, rfl, rfl, (by decide : (0 : Int) < 2), rfl, ?_⟩
   rw [<- V3w s10 s11 s20 s21]
   rfl
 rintro σ' H1 ⟨rfl, rfl⟩
 unfold whR at k
 refine ⟨fun σ' H' => H' = H1 /\ x2.f ≠ 0 /\ σ' = [sr fq, sr q1, sr q2, si (A0h x1.s x2.s), none, none], ?_, ?_⟩
 . refine ⟨_, rfl, q2, _, _, _, rfl, rfl, SqT.of a2.e, B7 (j := 1) rfl, rfl, _, rfl, J1 (fun h => ?_) (fun h => ⟨rfl, fun z => h (congrArg V.int z), rfl⟩)⟩
   have h : x2.f = 0 := V.int.inj h
   rw [if_pos h] at k
   refine ⟨_, rfl, _, rfl, _, rfl, fq, v, q1, q2, x1, x2, rfl, fr, a1, a2, fun q H' s' du => k q H' s' ?_⟩
   unfold ovR at du
   rw [if_pos h] at du
   exact du
 rintro σ' H2 ⟨rfl, hf2, rfl⟩
 rw [if_neg hf2] at k
 obtain ⟨w0, wT⟩ := G1v o1 o2
 refine ⟨fun σ' H' => C8 H2 H' /\ σ' = [sr fq, sr q1, sr q2, si (A0h x1.s x2.s), si (J9 x1 x2), none], ⟨_, rfl, _, rfl, q1, q2, x1, x2, rfl, a1, a2, hf2, fun q H' s' eq => ⟨q, _, _, _, rfl, rfl, SqT.of eq, B7 (j := 0) rfl, s', rfl⟩⟩, ?_⟩
 rintro σ' H3 ⟨s3, rfl⟩
 have a1 := a1.same s3; have a2 := a2.same s3; have fr := fr.same s3
 refine ⟨fun σ' H' => H' = H3 /\ σ' = [sr fq, sr q1, sr q2, si (A0h x1.s x2.s), si (J9 x1 x2), si (A0u (x1.p - x2.p) 0)], ?_, ?_⟩
 . refine ⟨_, rfl, q1, _, _, _, rfl, rfl, SqT.of a1.e, B7 (j := 2) rfl, _, rfl, q2, _, _, _, rfl, rfl, SqT.of a2.e, B7 (j := 2) rfl, _, _, rfl, rfl, _, _, rfl, rfl, ?_⟩
   have e : (if x1.p - x2.p > 0 then x1.p - x2.p else (0 : Int)) = A0u (x1.p - x2.p) 0 := by unfold A0u; split <;> split <;> omega
   rw [e]
   rfl
 rintro σ' H4 ⟨rfl, rfl⟩
 have r1 := ok.r1
 refine ⟨fun σ' H' => H' = H4 /\ J9 x1 x2 ≠ 0 /\ σ' = [sr fq, sr q1, sr q2, si (A0h x1.s x2.s), si (J9 x1 x2), si (A0u (x1.p - x2.p) 0)], ?_, ?_⟩
 . refine ⟨_, rfl, rfl, _, rfl, J1 (fun h => ?_) (fun h => ⟨rfl, fun z => h (congrArg V.int z), rfl⟩)⟩
   have h : J9 x1 x2 = 0 := V.int.inj h
   have tp := D4 v.r
   rw [if_neg (by omega), if_pos h, B9w] at k
   exact ⟨_, rfl, _, rfl, _, rfl, fq, v.r, v.y, v.l, v.m, _, _, rfl, fr.e, fun q H' s' => k q H' (s3.trans s')⟩
 rintro σ' H5 ⟨rfl, hw, rfl⟩
 refine ⟨fun σ' H' => H' = H5 /\ ¬ J9 x1 x2 >= A4 v.r /\ σ' = [sr fq, sr q1, sr q2, si (A0h x1.s x2.s), si (J9 x1 x2), si (A0u (x1.p - x2.p) 0)], ?_, ?_⟩
 . refine ⟨_, rfl, J9 x1 x2, rfl, w0, _, rfl, fq, _, _, _, rfl, rfl, SqT.of fr.e, B7 (j := 0) rfl, _, _, rfl, rfl, _, rfl, J1 (fun h => ?_) (fun h => ⟨rfl, fun z => h ((G1s w0 r1).mpr z), rfl⟩)⟩
   rw [if_pos ((G1s w0 r1).mp h), A6w] at k
   exact ⟨rfl, fun q H' s' => k q H' (s3.trans s')⟩
 rintro σ' H6 ⟨rfl, hr', rfl⟩
 rw [if_neg hr', if_neg hw] at k
 have tw : SzL (J9 x1 x2) := ⟨by omega, wT⟩
 have ri := B7u (v := v) (n := 0) ok tw szl_one (by decide) (by decide)
 refine ⟨_, rfl, _, rfl, _, rfl, z4, fun vq nv => ?_⟩
 have u := C8.upd (o := .tup (Lv.vs (.rat (J9 x1 x2) 1 0))) nv
 exact ⟨_, rfl, fq, v.r, v.y, v.l, v.m, _, vq, .rat (J9 x1 x2) 1 0, _, rfl, u _ _ fr.e, fr.ok, us.1, us.2, A7, J4m tw szl_one, ri.1, ri.2.1, ri.2.2, fun q H' s' => k q H' (s3.trans (u.trans s'))⟩
def V2r : Sp := fun vs H Q _ => ∃ fq v q1 q2 x1 x2, vs = [.ref fq, .ref q1, .ref q2] /\ B8d H fq v /\ J5 H q1 x1 /\ J5 H q2 x2 /\ ∀ q H', C8 H H' -> B6q H' q (rsR v x1 x2).1 (Z1 (rsR v x1 x2).2) -> Q (.ref q) H'
theorem scLRest : C5 ["_law_frame_here", "_law_one", "_law_other", "_law_whole", "_law_left", "_law_ten_here"] Q8 (A2 B7w) := scK
theorem Y4m {f f2 f3 f4 f5 f6 : Addr} {fd fd2 fd3 fd4 fd5 fd6 : FuncData} (D : Def K mg "_law_rest" Q8 B7w f fd) (D_l_parted : Def K mg "_law_parted" Q31 A2t f2 fd2) (G_l_parted : sI P w K mg base 2 f2 fd2 Q31 C1j)
   (D_l_nought : Def K mg "_law_nought" Q11 A0f f3 fd3) (G_l_nought : sI P w K mg base 1 f3 fd3 Q11 A4a)
   (D_l_count : Def K mg "_law_count" Q16 A2j f4 fd4) (G_l_count : sI P w K mg base 1 f4 fd4 Q16 B1n)
   (D_l_void : Def K mg "_law_void" [] A4h f5 fd5) (G_l_void : sI P w K mg base 1 f5 fd5 [] B5n)
   (D_l_settled : Def K mg "_law_settled" Q14 Y7 f6 fd6) (G_l_settled : sI P w K mg base 4 f6 fd6 Q14 A2a) (O : Own mg) : sI P w K mg base 5 f fd Q8 V2r := by
 refine D.F.okE scLRest (fun vs H Q E h => ?_) (fun X cdv A outer s H vs Q E hX hr hx h => ?_)
 . obtain ⟨fq, v, q1, q2, x1, x2, rfl, _⟩ := h
   rfl
 subst hX
 obtain ⟨fq, v, q1, q2, x1, x2, rfl, fr, a1, a2, k⟩ := h
 refine ⟨_, (A3 (B5 (G4 (C7 G2 (D9 G3 (pv 2) A1 (fun _ _ => rfl)) A1 (C6 _)) (A6 (B0 (A3f D_l_void G_l_void hr hx))) D0)) (A3 (B5 (A6e (C9 D_l_parted G_l_parted hr hx (A0 (pv 1) (A0 (pv 2) A5))) (B7g rfl (U9 (J7 (i := 3) scLRest.nd rfl (Or.inl rfl)) (U9 (J7 (i := 4) scLRest.nd rfl (Or.inl rfl)) A7u))))) (A3 (B5 (D3 (i := 5) scLRest.nd rfl (Or.inl rfl) (J3 (A1y rfl) (by rfl) O.min_ boot_min (A0 (D9 G3 (pv 1) A1 (fun _ _ => rfl)) (A0 (D9 G3 (pv 2) A1 (fun _ _ => rfl)) A5))))) (A3 (B5 (G4 (C7 A7b (C9 D_l_count G_l_count hr hx (A0 (pv 3) A5)) (D9 G3 (pv 0) A1 (fun _ _ => rfl)) (C6 _)) (A6 (B0 (A3f D_l_void G_l_void hr hx))) D0)) (A3 (B5 (G4 (C7 G2 (pv 4) A1 (C6 _)) (A6 (B0 (C9 D_l_nought G_l_nought hr hx (A0 (pv 0) (A0 (D9 G3 (pv 1) A1 (fun _ _ => rfl)) (A0 (pv 5) A5)))))) D0)) (A6 (B0 (C9 D_l_settled G_l_settled hr hx (A0 (pv 0) (A0 (D9 G3 (pv 1) A1 (fun _ _ => rfl)) (A0 (U5 (A0 (pv 4) (A0 A1 (A0 (pv 5) (A0 A3k A5))))) (A0 (pv 5) A5)))))))))))), ?_⟩
 have o1 := a1.o; have o2 := a2.o
 have s10 := o1.s0; have s11 := o1.s1; have s20 := o2.s0; have s21 := o2.s1
 have p10 := o1.p0; have p11 := o1.p1; have p20 := o2.p0; have p21 := o2.p1
 have f10 := o1.f0; have f11 := o1.f1; have f20 := o2.f0; have f21 := o2.f1
 have ok := fr.cv
 have us := C1h x1.s x2.s
 have z4 : 4 <= sizeLine := D7 (by decide)
 unfold rsR at k
 refine ⟨fun σ' H' => H' = H /\ x2.f ≠ 0 /\ σ' = [sr fq, sr q1, sr q2, none, none, none], ?_, ?_⟩
 . refine ⟨_, rfl, q2, _, _, _, rfl, rfl, SqT.of a2.e, B7 (j := 1) rfl, rfl, _, rfl, J1 (fun h => ?_) (fun h => ⟨rfl, fun z => h (congrArg V.int z), rfl⟩)⟩
   rw [if_pos (V.int.inj h), A6w] at k
   exact ⟨rfl, k⟩
 rintro σ' H2 ⟨rfl, hf2, rfl⟩
 rw [if_neg hf2] at k
 obtain ⟨w0, wT⟩ := G1v o1 o2
 obtain ⟨g0, g1, g2, g3, g4⟩ := G1y o1 o2 hf2
 refine ⟨fun σ' H' => C8 H2 H' /\ σ' = [sr fq, sr q1, sr q2, si (J9 x1 x2), si ((Z9 x1 x2).f), none], ⟨_, rfl, _, rfl, q1, q2, x1, x2, rfl, a1, a2, hf2, fun q H' s' eq => ⟨q, _, rfl, SqT.of eq, rfl, _, _, rfl, _, _, rfl, rfl, s', rfl⟩⟩, ?_⟩
 rintro σ' H3 ⟨s3, rfl⟩
 have a1 := a1.same s3; have a2 := a2.same s3; have fr := fr.same s3
 refine ⟨fun σ' H' => H' = H3 /\ σ' = [sr fq, sr q1, sr q2, si (J9 x1 x2), si ((Z9 x1 x2).f), si (V9 x1 x2)], ⟨_, rfl, q1, _, _, _, rfl, rfl, SqT.of a1.e, B7 (j := 2) rfl, _, rfl, q2, _, _, _, rfl, rfl, SqT.of a2.e, B7 (j := 2) rfl, _, _, rfl, rfl, rfl⟩, ?_⟩
 rintro σ' H4 ⟨rfl, rfl⟩
 have r1 := ok.r1
 refine ⟨fun σ' H' => H' = H4 /\ ¬ J9 x1 x2 >= A4 v.r /\ σ' = [sr fq, sr q1, sr q2, si (J9 x1 x2), si ((Z9 x1 x2).f), si (V9 x1 x2)], ?_, ?_⟩
 . refine ⟨_, rfl, J9 x1 x2, rfl, w0, _, rfl, fq, _, _, _, rfl, rfl, SqT.of fr.e, B7 (j := 0) rfl, _, _, rfl, rfl, _, rfl, J1 (fun h => ?_) (fun h => ⟨rfl, fun z => h ((G1s w0 r1).mpr z), rfl⟩)⟩
   rw [if_pos ((G1s w0 r1).mp h), A6w] at k
   exact ⟨rfl, fun q H' s' => k q H' (s3.trans s')⟩
 rintro σ' H5 ⟨rfl, hr', rfl⟩
 rw [if_neg hr'] at k
 refine ⟨fun σ' H' => H' = H5 /\ (Z9 x1 x2).f ≠ 0 /\ σ' = [sr fq, sr q1, sr q2, si (J9 x1 x2), si ((Z9 x1 x2).f), si (V9 x1 x2)], ?_, ?_⟩
 . refine ⟨_, rfl, rfl, _, rfl, J1 (fun h => ?_) (fun h => ⟨rfl, fun z => h (congrArg V.int z), rfl⟩)⟩
   rw [if_pos (V.int.inj h), B9w] at k
   exact ⟨_, rfl, _, rfl, q1, _, _, _, rfl, rfl, SqT.of a1.e, B7 (j := 0) rfl, _, rfl, fq, v.r, v.y, v.l, v.m, _, _, rfl, fr.e, fun q H' s' => k q H' (s3.trans s')⟩
 rintro σ' H6 ⟨rfl, hl, rfl⟩
 rw [if_neg hl] at k
 have tw : SzL (Z9 x1 x2).f := ⟨by omega, g1⟩
 have g2 : -200 <= V9 x1 x2 := g2
 have g3 : V9 x1 x2 <= 200 := g3
 have ri := B7u (v := v) (n := V9 x1 x2) ok tw szl_one (by omega) (by omega)
 refine ⟨_, rfl, _, rfl, q1, _, _, _, rfl, rfl, SqT.of a1.e, B7 (j := 0) rfl, _, rfl, _, rfl, z4, fun vq nv => ?_⟩
 have u := C8.upd (o := .tup (Lv.vs (.rat (Z9 x1 x2).f 1 (V9 x1 x2)))) nv
 exact ⟨_, rfl, fq, v.r, v.y, v.l, v.m, _, vq, .rat (Z9 x1 x2).f 1 (V9 x1 x2), _, rfl, u _ _ fr.e, fr.ok, s10, s11, A7, J4m tw szl_one, ri.1, ri.2.1, ri.2.2, fun q H' s' => k q H' (s3.trans (u.trans s'))⟩
def V2q : Sp := fun vs H Q _ => ∃ fq v q1 x, vs = [.ref fq, .ref q1] /\ B8d H fq v /\ J5 H q1 x /\ ∀ q H', C8 H H' -> B6q H' q (rootR v x).1 (Z1 (rootR v x).2) -> Q (.ref q) H'
theorem A0hf : C5 Q41 Q41 (A2 B7p) := scK
theorem Y5m {f f3 f5 f6 : Addr} {fd fd3 fd5 fd6 : FuncData} (D : Def K mg "_law_root" Q41 B7p f fd) (D_l_nought : Def K mg "_law_nought" Q11 A0f f3 fd3) (G_l_nought : sI P w K mg base 1 f3 fd3 Q11 A4a) (D_l_void : Def K mg "_law_void" [] A4h f5 fd5) (G_l_void : sI P w K mg base 1 f5 fd5 [] B5n)
   (D_l_settled : Def K mg "_law_settled" Q14 Y7 f6 fd6) (G_l_settled : sI P w K mg base 4 f6 fd6 Q14 A2a) : sI P w K mg base 5 f fd Q41 V2q := by
 refine D.F.okE A0hf (fun vs H Q E h => ?_) (fun X cdv A outer s H vs Q E hX hr hx h => ?_)
 . obtain ⟨fq, v, q1, x, rfl, _⟩ := h
   rfl
 subst hX
 obtain ⟨fq, v, q1, x, rfl, fr, a1, k⟩ := h
 refine ⟨_, (A3 (G4 (C7 G2 (D9 G3 (pv 1) A1 (fun _ _ => rfl)) A1 (C6 _)) (A6 (B0 (C9 D_l_nought G_l_nought hr hx (A0 (pv 0) (A0 (D9 G3 (pv 1) A1 (fun _ _ => rfl)) (A0 (A9 D8 (D9 G3 (pv 1) A1 (fun _ _ => rfl)) A1) A5)))))) D0) (A3 (G4 (C7 G2 (D9 G3 (pv 1) A1 (fun _ _ => rfl)) A1 (C6 _)) (A6 (B0 (A3f D_l_void G_l_void hr hx))) D0) (A6 (B0 (C9 D_l_settled G_l_settled hr hx (A0 (pv 0) (A0 A1 (A0 (U5 (A0 (D9 G3 (pv 1) A1 (fun _ _ => rfl)) (A0 A1 (A0 (D9 G3 (pv 1) A1 (fun _ _ => rfl)) (A0 A3k A5))))) (A0 (A9 D8 (D9 G3 (pv 1) A1 (fun _ _ => rfl)) A1) A5))))))))), ?_⟩
 have d2 := dv (n := 2) (by decide) (by decide +kernel)
 have z4 : 4 <= sizeLine := D7 (by decide)
 have o1 := a1.o
 have f10 := o1.f0; have f11 := o1.f1
 unfold rootR at k
 refine ⟨_, rfl, q1, _, _, _, rfl, rfl, SqT.of a1.e, B7 (j := 1) rfl, rfl, _, rfl, J1 (fun h => ?_) (fun h => ?_)⟩
 . rw [if_pos (V.int.inj h), B9w] at k
   exact ⟨_, rfl, _, rfl, q1, _, _, _, rfl, rfl, SqT.of a1.e, B7 (j := 0) rfl, _, rfl, q1, _, _, _, rfl, rfl, SqT.of a1.e, B7 (j := 2) rfl, _, _, rfl, rfl, d2, fq, v.r, v.y, v.l, v.m, _, _, rfl, fr.e, k⟩
 have hf : ¬ x.f = 0 := fun z => h (congrArg V.int z)
 rw [if_neg hf] at k
 clear h
 refine ⟨_, rfl, q1, _, _, _, rfl, rfl, SqT.of a1.e, B7 (j := 0) rfl, rfl, _, rfl, J1 (fun h => ?_) (fun h => ?_)⟩
 . rw [if_pos (V.int.inj h), A6w] at k
   exact ⟨rfl, k⟩
 rw [if_neg fun z => h (congrArg V.int z)] at k
 have szq : SzQ x.f := ⟨by omega, Int.lt_of_le_of_lt f11 (by decide +kernel)⟩
 obtain ⟨r0, r1, wr⟩ := V2m fr.cv szq o1.p0 o1.p1
 have wq := A6r (t := x.f) (s := x.p - 2 * v.fin (A6t x.f x.p)) (by omega)
 refine ⟨_, rfl, _, rfl, q1, _, _, _, rfl, rfl, SqT.of a1.e, B7 (j := 1) rfl, _, rfl, q1, _, _, _, rfl, rfl, SqT.of a1.e, B7 (j := 2) rfl, z4, fun vq nv => ?_⟩
 have u := C8.upd (o := .tup (Lv.vs (.roo x.f x.p))) nv
 have e1 := u _ _ a1.e
 exact ⟨_, rfl, q1, _, _, _, rfl, rfl, SqT.of e1, B7 (j := 2) rfl, _, _, rfl, rfl, d2, fq, v.r, v.y, v.l, v.m, 0, vq, .roo x.f x.p, _, rfl, u _ _ fr.e, fr.ok, by decide, by decide, A7, ⟨szq, o1.p0, o1.p1⟩, ⟨r0, r1⟩, wq.1, wr, fun q H' s' => k q H' (u.trans s')⟩
def G0a : Sp := fun vs H Q _ => ∃ f k : Int, vs = [.int f, .int (k.natAbs : Int)] /\ 0 < f /\ f < A4 24 /\ -20 <= k /\ k <= 20 /\ Q (.int (A6g f k)) H
theorem scLRaised : C5 ["_law_number", "_law_count_here", "_law_found", "_law_turn"] Q49 (A2 A4g) := scK
theorem U0m {f : Addr} {fd : FuncData} (D : Def K mg "_law_raised" Q49 A4g f fd) (O : Own mg) : sI P w K mg base 1 f fd Q49 G0a := by
 refine D.F.okE scLRaised (fun vs H Q E h => ?_) (fun X cdv A outer s H vs Q E hX hr hx h => ?_)
 . obtain ⟨f, k, rfl, _⟩ := h
   rfl
 subst hX
 obtain ⟨g, c, rfl, g0, g1, c0, c1, k⟩ := h
 refine ⟨_, (A3 (B5 (D3 (i := 2) scLRaised.nd rfl (Or.inl rfl) A1)) (A3 (B5 (B7y PassesOwn.leaving rfl (B5u rfl O.range_ (A0 (pv 1) A5)) (J7 (i := 3) scLRaised.nd rfl (Or.inl rfl)) (A6 (B5 (D3 (i := 2) scLRaised.nd rfl (Or.inl rfl) (A9 G5 (pv 2) (pv 0))))))) (A6 (B0 (pv 2))))), ?_⟩
 obtain ⟨m, rfl⟩ : ∃ m : Nat, g = (m : Int) := ⟨g.toNat, by omega⟩
 refine ⟨fun σ' H' => H' = H /\ σ' = [si (m : Int), si (c.natAbs : Int), si 1, none], ⟨rfl, rfl⟩, ?_⟩
 rintro σ' H1 ⟨rfl, rfl⟩
 refine ⟨fun σ' H' => H' = H1 /\ ∃ v, σ' = [si (m : Int), si (c.natAbs : Int), si (A6g (m : Int) c), v], ?_, ?_⟩
 . refine ⟨_, rfl, (c.natAbs : Int), rfl, by omega, by omega, B5v (n := (c.natAbs : Int).toNat) (fun i σ' H' => i <= 20 /\ H' = H1 /\ ∃ v, σ' = [si (m : Int), si (c.natAbs : Int), si ((m ^ i : Nat) : Int), v]) ⟨by decide, rfl, none, rfl⟩ ?_ ?_⟩
   . rintro i σ' H' hi ⟨i20, rfl, v, rfl⟩
     have hi : i < c.natAbs := by omega
     refine ⟨_, ?_, fun _ _ h => h⟩
     have sz := U1d (f := (m : Int)) (k := (i : Int)) g0 g1 (by omega) (by omega)
     have e : A6g (m : Int) (i : Int) = ((m ^ i : Nat) : Int) := by unfold A6g; rw [Int.toNat_natCast, Int.natAbs_natCast]
     rw [e] at sz
     have mb : Builtin.Int.intBits (m : Int) <= 2 ^ 20 := U1n (Int.natCast_nonneg _) (Int.lt_of_lt_of_le g1 (V8 (by decide)))
     refine ⟨_, rfl, _, rfl, _, _, rfl, rfl, IntMulOk.of_bits (C7m sz.sz) mb, by omega, rfl, si (0 + (i : Int)), ?_⟩
     rw [Nat.pow_succ, Int.natCast_mul]
     rfl
   . rintro σ' H' ⟨_, rfl, v, rfl⟩
     refine ⟨rfl, v, ?_⟩
     unfold A6g
     rw [Int.toNat_natCast, Int.toNat_natCast]
 rintro σ' H2 ⟨rfl, v, rfl⟩
 exact ⟨_, rfl, k⟩
theorem A0rp {s k : Int} (s0 : 0 <= s) (s1 : s <= 1) : s * (k % 2) = sgI s k := by
 unfold sgI
 rcases (by omega : k % 2 = 0 \/ k % 2 = 1) with h | h
 . rw [h, if_neg (by decide), Int.mul_zero]
 rw [h, if_pos rfl, Int.mul_one]
def J4w : Sp := fun vs H Q _ => ∃ fq v q1 x, ∃ c : Int, vs = [.ref fq, .ref q1, .int c] /\ B8d H fq v /\ J5 H q1 x /\ x.f < A4 24 /\ -60 <= x.p /\ x.p <= 60 /\ -20 <= c /\ c <= 20 /\ ∀ q H', C8 H H' -> B6q H' q (powR v x c).1 (Z1 (powR v x c).2) -> Q (.ref q) H'
theorem scLPower : C5 ["_law_frame_here", "_law_one", "_law_count_here", "_law_sign", "_law_raised_here", "_law_value"] Q50 (A2 A7v) := scK
theorem V6m {f f1 f2 f3 f5 f6 : Addr} {fd fd1 fd2 fd3 fd5 fd6 : FuncData} (D : Def K mg "_law_power" Q50 A7v f fd) (D_l_raised : Def K mg "_law_raised" Q49 A4g f1 fd1) (G_l_raised : sI P w K mg base 1 f1 fd1 Q49 G0a) (D_l_split : Def K mg "_law_split" ["_law_sign"] A5k f2 fd2) (G_l_split : sI P w K mg base 1 f2 fd2 ["_law_sign"] C8n) (D_l_nought : Def K mg "_law_nought" Q11 A0f f3 fd3) (G_l_nought : sI P w K mg base 1 f3 fd3 Q11 A4a) (D_l_void : Def K mg "_law_void" [] A4h f5 fd5) (G_l_void : sI P w K mg base 1 f5 fd5 [] B5n)
   (D_l_settled : Def K mg "_law_settled" Q14 Y7 f6 fd6) (G_l_settled : sI P w K mg base 4 f6 fd6 Q14 A2a) (O : Own mg) : sI P w K mg base 5 f fd Q50 J4w := by
 refine D.F.okE scLPower (fun vs H Q E h => ?_) (fun X cdv A outer s H vs Q E hX hr hx h => ?_)
 . obtain ⟨fq, v, q1, x, c, rfl, _⟩ := h
   rfl
 subst hX
 obtain ⟨fq, v, q1, x, c, rfl, fr, a1, f24, p0, p1, c0, c1, k⟩ := h
 refine ⟨_, (A3 (B5 (D3 (i := 3) scLPower.nd rfl (Or.inl rfl) (A9 G5 (D9 G3 (pv 1) A1 (fun _ _ => rfl)) (A9 J0 (pv 2) A1)))) (A3 (B5 (G4 (C7 G2 (D9 G3 (pv 1) A1 (fun _ _ => rfl)) A1 (C6 _)) (A3 (B5 (G4 (C7 G2 (pv 2) A1 (C6 _)) (A6 (B0 (A3f D_l_void G_l_void hr hx))) D0)) (A6 (B0 (V5 (C7 B6s (pv 2) A1 (C6 _)) (C9 D_l_split G_l_split hr hx (A0 (pv 3) A5)) (C9 D_l_nought G_l_nought hr hx (A0 (pv 0) (A0 (pv 3) (A0 (A9 G5 (pv 2) (D9 G3 (pv 1) A1 (fun _ _ => rfl))) A5)))))))) D0)) (A3 (B5 (D3 (i := 4) scLPower.nd rfl (Or.inl rfl) (C9 D_l_raised G_l_raised hr hx (A0 (D9 G3 (pv 1) A1 (fun _ _ => rfl)) (A0 (J3 A7a (by rfl) O.abs_ boot_abs (A0 (pv 2) A5)) A5))))) (A3 (B5 (D3 (i := 5) scLPower.nd rfl (Or.inl rfl) (V5 (C7 D9r (pv 2) A1 (C6 _)) (U5 (A0 (pv 4) (A0 A1 (A0 (A9 G5 (pv 2) (D9 G3 (pv 1) A1 (fun _ _ => rfl))) (A0 A3k A5))))) (U5 (A0 A1 (A0 (pv 4) (A0 (A9 G5 (pv 2) (D9 G3 (pv 1) A1 (fun _ _ => rfl))) (A0 A3k A5)))))))) (A6 (B0 (C9 D_l_settled G_l_settled hr hx (A0 (pv 0) (A0 (pv 3) (A0 (pv 5) (A0 (A9 G5 (pv 2) (D9 G3 (pv 1) A1 (fun _ _ => rfl))) A5))))))))))), ?_⟩
 have z4 : 4 <= sizeLine := D7 (by decide)
 have o1 := a1.o
 have s0 := o1.s0; have s1 := o1.s1; have f10 := o1.f0
 have so := A0qr (k := c) s0 s1
 have mc : IntMulOk c x.p := A2u.ok (.inl ⟨by omega, by omega⟩)
 refine ⟨fun σ' H' => H' = H /\ σ' = [sr fq, sr q1, si c, si (sgI x.s c), none, none], ?_, ?_⟩
 . refine ⟨_, rfl, q1, _, _, _, rfl, rfl, SqT.of a1.e, B7 (j := 0) rfl, _, rfl, _, _, rfl, rfl, (by decide : (0 : Int) < 2), _, _, rfl, rfl, A2u.ok (.inl ⟨by omega, by omega⟩), rfl, ?_⟩
   rw [<- A0rp s0 s1]
   rfl
 rintro σ' H1 ⟨rfl, rfl⟩
 unfold powR at k
 refine ⟨fun σ' H' => H' = H1 /\ x.f ≠ 0 /\ σ' = [sr fq, sr q1, si c, si (sgI x.s c), none, none], ?_, ?_⟩
 . refine ⟨_, rfl, q1, _, _, _, rfl, rfl, SqT.of a1.e, B7 (j := 1) rfl, rfl, _, rfl, J1 (fun h => ?_) (fun h => ⟨rfl, fun z => h (congrArg V.int z), rfl⟩)⟩
   rw [if_pos (V.int.inj h)] at k
   refine ⟨fun σ' H' => H' = H1 /\ c ≠ 0 /\ σ' = [sr fq, sr q1, si c, si (sgI x.s c), none, none], ?_, ?_⟩
   . refine ⟨_, rfl, rfl, _, rfl, J1 (fun h2 => ?_) (fun h2 => ⟨rfl, fun z => h2 (congrArg V.int z), rfl⟩)⟩
     rw [if_pos (V.int.inj h2), A6w] at k
     exact ⟨rfl, k⟩
   rintro σ' H2 ⟨rfl, hc0, rfl⟩
   rw [if_neg hc0] at k
   refine ⟨_, rfl, _, _, rfl, rfl, _, rfl, J1 (fun h2 => ?_) (fun h2 => ?_)⟩
   . rw [if_pos h2, D9n] at k
     exact ⟨_, rfl, _, rfl, k⟩
   . rw [if_neg h2, B9w] at k
     exact ⟨_, rfl, _, rfl, _, rfl, _, rfl, q1, _, _, _, rfl, rfl, SqT.of a1.e, B7 (j := 2) rfl, _, _, rfl, rfl, mc, fq, v.r, v.y, v.l, v.m, _, _, rfl, fr.e, k⟩
 rintro σ' H2 ⟨rfl, hf, rfl⟩
 rw [if_neg hf] at k
 refine ⟨fun σ' H' => H' = H2 /\ σ' = [sr fq, sr q1, si c, si (sgI x.s c), si (A6g x.f c), none], ?_, ?_⟩
 . refine ⟨_, rfl, q1, _, _, _, rfl, rfl, SqT.of a1.e, B7 (j := 1) rfl, _, rfl, _, rfl, x.f, c, ?_, by omega, f24, c0, c1, rfl, rfl⟩
   show [V.int x.f, V.int (if c < 0 then -c else c)] = [V.int x.f, V.int (c.natAbs : Int)]
   congr 3
   split <;> omega
 rintro σ' H3 ⟨rfl, rfl⟩
 have sz := U1d (k := c) (show 0 < x.f by omega) f24 c0 c1
 have kb := kp_b c0 c1 p0 p1
 by_cases hc : c < 0
 . rw [if_pos hc] at k
   have ri := B7u (v := v) fr.cv szl_one sz kb.1 kb.2
   refine ⟨fun σ' H' => ∃ vq, C8 H3 H' /\ H' vq = some (.tup (Lv.vs (.rat 1 (A6g x.f c) (c * x.p)))) /\ σ' = [sr fq, sr q1, si c, si (sgI x.s c), si (A6g x.f c), sr vq], ⟨_, rfl, _, _, rfl, rfl, _, rfl, U0 (by omega) ⟨_, rfl, _, rfl, _, rfl, q1, _, _, _, rfl, rfl, SqT.of a1.e, B7 (j := 2) rfl, _, _, rfl, rfl, mc, z4, fun vq nv => ⟨vq, C8.upd nv, A7, rfl⟩⟩⟩, ?_⟩
   rintro σ' H4 ⟨vq, s4, ev, rfl⟩
   have e1 := s4 _ _ a1.e
   exact ⟨_, rfl, _, rfl, _, rfl, _, rfl, _, rfl, q1, _, _, _, rfl, rfl, SqT.of e1, B7 (j := 2) rfl, _, _, rfl, rfl, mc, fq, v.r, v.y, v.l, v.m, _, vq, _, _, rfl, s4 _ _ fr.e, fr.ok, so.1, so.2, ev, J4m szl_one sz, ri.1, ri.2.1, ri.2.2, fun q H' s' => k q H' (s4.trans s')⟩
 rw [if_neg hc] at k
 have ri := B7u (v := v) fr.cv sz szl_one kb.1 kb.2
 refine ⟨fun σ' H' => ∃ vq, C8 H3 H' /\ H' vq = some (.tup (Lv.vs (.rat (A6g x.f c) 1 (c * x.p)))) /\ σ' = [sr fq, sr q1, si c, si (sgI x.s c), si (A6g x.f c), sr vq], ⟨_, rfl, _, _, rfl, rfl, _, rfl, A0p (by omega) ⟨_, rfl, _, rfl, _, rfl, q1, _, _, _, rfl, rfl, SqT.of a1.e, B7 (j := 2) rfl, _, _, rfl, rfl, mc, z4, fun vq nv => ⟨vq, C8.upd nv, A7, rfl⟩⟩⟩, ?_⟩
 rintro σ' H4 ⟨vq, s4, ev, rfl⟩
 have e1 := s4 _ _ a1.e
 exact ⟨_, rfl, _, rfl, _, rfl, _, rfl, _, rfl, q1, _, _, _, rfl, rfl, SqT.of e1, B7 (j := 2) rfl, _, _, rfl, rfl, mc, fq, v.r, v.y, v.l, v.m, _, vq, _, _, rfl, s4 _ _ fr.e, fr.ok, so.1, so.2, ev, J4m sz szl_one, ri.1, ri.2.1, ri.2.2, fun q H' s' => k q H' (s4.trans s')⟩
abbrev C9t : Stmt := (top 101)
abbrev B7j : Stmt := (top 102)
abbrev B7t : Stmt := (top 103)
noncomputable def opR (v : Cv) (k : Int) (x1 x2 x3 : Nm) (c : Int) : Nm × List Str := if k = 0 then ovR v x1 x2 else if k = 1 then whR v x1 x2 else if k = 2 then rsR v x1 x2 else if k = 3 then rootR v x1 else powR v x3 c
theorem A0fx {v : Cv} {x1 x2 : Nm} (h1 : x1.k = .plain) (h2 : x2.k = .plain) : V3s v x1 x2 (x1.p - x2.p + A0r x1.f x2.f) = ovR v x1 x2 := by
 have hn : ¬ (x1.k = .none \/ x2.k = .none) := fun z => by rcases z with z | z <;> simp [h1, h2] at z
 have e1 : x1.k ≠ .end_ := fun z => by simp [h1] at z
 have e2 : x2.k ≠ .end_ := fun z => by simp [h2] at z
 unfold V3s ovR J4j
 rw [if_neg hn]
 by_cases hf : x2.f = 0
 . rw [if_neg (fun z : A0a x1 x2 => z.2.2 hf), if_pos hf]
   unfold V6g
   rw [if_neg e1, if_neg e2]
 rw [if_pos (show A0a x1 x2 from ⟨h1, h2, hf⟩), if_neg hf]
 rfl
theorem Y4j {v : Cv} {x1 x2 : Nm} (h1 : x1.k = .plain) (h2 : x2.k = .plain) : woR v x1 x2 (0 + A0r (J9 x1 x2) 1) = whR v x1 x2 := by
 have hn : ¬ (x1.k = .none \/ x2.k = .none) := fun z => by rcases z with z | z <;> simp [h1, h2] at z
 have e1 : x1.k ≠ .end_ := fun z => by simp [h1] at z
 have e2 : x2.k ≠ .end_ := fun z => by simp [h2] at z
 unfold woR whR J4j
 rw [if_neg hn]
 by_cases hf : x2.f = 0
 . rw [if_neg (fun z : A0a x1 x2 => z.2.2 hf), if_pos hf]
   unfold V6g
   rw [if_neg e1, if_neg e2]
 rw [if_pos (show A0a x1 x2 from ⟨h1, h2, hf⟩), if_neg hf]
 rfl
theorem A0jm {v : Cv} {x1 x2 : Nm} (h1 : x1.k = .plain) (h2 : x2.k = .plain) : reR v x1 x2 (V9 x1 x2 + A0r (Z9 x1 x2).f 1) = rsR v x1 x2 := by
 have hn : ¬ (x1.k = .none \/ x2.k = .none) := fun z => by rcases z with z | z <;> simp [h1, h2] at z
 have e1 : x1.k ≠ .end_ := fun z => by simp [h1] at z
 have e2 : x2.k ≠ .end_ := fun z => by simp [h2] at z
 unfold reR rsR
 rw [if_neg hn, if_neg e1]
 by_cases hf : x2.f = 0
 . rw [if_pos ⟨h2, hf⟩, if_pos hf]
 rw [if_neg (fun z => hf z.2), if_neg e2, if_neg hf]
 rfl
def Y6p : Sp := fun vs H Q _ => ∃ fq v pq q1 q2 q3 x1 x2 x3, ∃ k c : Int, vs = [.ref fq, .int k, .ref pq, .int c] /\ B8d H fq v /\ H pq = some (.lst [.ref q1, .ref q2, .ref q3]) /\ J5 H q1 x1 /\ J5 H q2 x2 /\ J5 H q3 x3 /\ x3.f < A4 24 /\ -60 <= x3.p /\ x3.p <= 60 /\ -20 <= c /\ c <= 20 /\
 ∀ q H', C8 H H' -> B6q H' q (opR v k x1 x2 x3 c).1 (Z1 (opR v k x1 x2 x3 c).2) -> Q (.ref q) H'
theorem A0sp : C5 Q42 Q42 (A2 C9t) := scK
theorem A0hm {f f1 f2 f3 f4 f5 : Addr} {fd fd1 fd2 fd3 fd4 fd5 : FuncData} (D : Def K mg "_law_due" Q42 C9t f fd) (D_l_over : Def K mg "_law_over" Q8 B1r f1 fd1) (G_l_over : sI P w K mg base 5 f1 fd1 Q8 G1p)
   (D_l_whole_over : Def K mg "_law_whole_over" Q8 A0c f2 fd2) (G_l_whole_over : sI P w K mg base 6 f2 fd2 Q8 B9x) (D_l_rest : Def K mg "_law_rest" Q8 B7w f3 fd3) (G_l_rest : sI P w K mg base 5 f3 fd3 Q8 V2r)
   (D_l_root : Def K mg "_law_root" Q41 B7p f4 fd4) (G_l_root : sI P w K mg base 5 f4 fd4 Q41 V2q) (D_l_power : Def K mg "_law_power" Q50 A7v f5 fd5) (G_l_power : sI P w K mg base 5 f5 fd5 Q50 J4w) : sI P w K mg base 7 f fd Q42 Y6p := by
 refine D.F.okE A0sp (fun vs H Q E h => ?_) (fun X cdv A outer s H vs Q E hX hr hx h => ?_)
 . obtain ⟨fq, v, pq, q1, q2, q3, x1, x2, x3, k, c, rfl, _⟩ := h
   rfl
 subst hX
 obtain ⟨fq, v, pq, q1, q2, q3, x1, x2, x3, n, c, rfl, fr, ep, a1, a2, a3, f24, p0, p1, c0, c1, k⟩ := h
 refine ⟨_, (A3 (G4 (C7 G2 (pv 1) A1 (C6 _)) (A6 (B0 (C9 D_l_over G_l_over hr hx (A0 (pv 0) (A0 (D9 U6 (pv 2) A1 (fun _ _ => rfl)) (A0 (D9 U6 (pv 2) A1 (fun _ _ => rfl)) A5)))))) D0) (A3 (G4 (C7 G2 (pv 1) A1 (C6 _)) (A6 (B0 (C9 D_l_whole_over G_l_whole_over hr hx (A0 (pv 0) (A0 (D9 U6 (pv 2) A1 (fun _ _ => rfl)) (A0 (D9 U6 (pv 2) A1 (fun _ _ => rfl)) A5)))))) D0) (A3 (G4 (C7 G2 (pv 1) A1 (C6 _)) (A6 (B0 (C9 D_l_rest G_l_rest hr hx (A0 (pv 0) (A0 (D9 U6 (pv 2) A1 (fun _ _ => rfl)) (A0 (D9 U6 (pv 2) A1 (fun _ _ => rfl)) A5)))))) D0) (A3 (G4 (C7 G2 (pv 1) A1 (C6 _)) (A6 (B0 (C9 D_l_root G_l_root hr hx (A0 (pv 0) (A0 (D9 U6 (pv 2) A1 (fun _ _ => rfl)) A5))))) D0) (A6 (B0 (C9 D_l_power G_l_power hr hx (A0 (pv 0) (A0 (D9 U6 (pv 2) A1 (fun _ _ => rfl)) (A0 (pv 3) A5)))))))))), ?_⟩
 unfold opR at k
 refine ⟨_, rfl, rfl, _, rfl, J1 (fun h => ?_) (fun h => ?_)⟩
 . rw [if_pos (V.int.inj h)] at k
   exact ⟨_, rfl, _, rfl, pq, _, _, _, rfl, rfl, SqL.of ep, B7 (j := 0) rfl, _, rfl, pq, _, _, _, rfl, rfl, SqL.of ep, B7 (j := 1) rfl, fq, v, q1, q2, x1, x2, rfl, fr, a1, a2, k⟩
 rw [if_neg fun z => h (congrArg V.int z)] at k
 clear h
 refine ⟨_, rfl, rfl, _, rfl, J1 (fun h => ?_) (fun h => ?_)⟩
 . rw [if_pos (V.int.inj h)] at k
   exact ⟨_, rfl, _, rfl, pq, _, _, _, rfl, rfl, SqL.of ep, B7 (j := 0) rfl, _, rfl, pq, _, _, _, rfl, rfl, SqL.of ep, B7 (j := 1) rfl, fq, v, q1, q2, x1, x2, rfl, fr, a1, a2, k⟩
 rw [if_neg fun z => h (congrArg V.int z)] at k
 clear h
 refine ⟨_, rfl, rfl, _, rfl, J1 (fun h => ?_) (fun h => ?_)⟩
 . rw [if_pos (V.int.inj h)] at k
   exact ⟨_, rfl, _, rfl, pq, _, _, _, rfl, rfl, SqL.of ep, B7 (j := 0) rfl, _, rfl, pq, _, _, _, rfl, rfl, SqL.of ep, B7 (j := 1) rfl, fq, v, q1, q2, x1, x2, rfl, fr, a1, a2, k⟩
 rw [if_neg fun z => h (congrArg V.int z)] at k
 clear h
 refine ⟨_, rfl, rfl, _, rfl, J1 (fun h => ?_) (fun h => ?_)⟩
 . rw [if_pos (V.int.inj h)] at k
   exact ⟨_, rfl, _, rfl, pq, _, _, _, rfl, rfl, SqL.of ep, B7 (j := 0) rfl, fq, v, q1, x1, rfl, fr, a1, k⟩
 rw [if_neg fun z => h (congrArg V.int z)] at k
 exact ⟨_, rfl, _, rfl, pq, _, _, _, rfl, rfl, SqL.of ep, B7 (j := 2) rfl, _, rfl, fq, v, q3, x3, c, rfl, fr, a3, f24, p0, p1, c0, c1, k⟩
def V3e (CN CC CT : Addr) : Sp := fun vs H Q E => ∃ c v a b xs ys l n1 n2 n3 x1 x2 x3, ∃ k m : Int, vs = [.ref c, .int k, .ref l, .int m] /\ A0n CC H c v a b xs ys /\ v.Ok /\ xs.length <= 900 /\ Z1 xs = xs /\ H l = some (.lst [.ref n1, .ref n2, .ref n3]) /\ Two CN H n1 n2 x1 x2 /\ V1 CN H n3 x3 /\ x1.k = .plain /\ x2.k = .plain /\ x3.k = .plain /\ x1.Ok /\ x2.Ok /\ x3.Ok /\ x3.f < A4 24 /\ -60 <= x3.p /\ x3.p <= 60 /\ -20 <= m /\ m <= 20 /\ A1r CN CC CT H c v b xs ys (opR v k x1 x2 x3 m) Q E
theorem A0jj : C5 Q43 Q43 (A2 B7j) := scK
theorem Y5a {f f1 f2 f3 f4 f5 CN CC CT : Addr} {fd fd1 fd2 fd3 fd4 fd5 : FuncData} (D : Def K mg "_law_told" Q43 B7j f fd) (D_over : Def K mg "over" Q9 C9v f1 fd1) (G_over : sI P w K mg base 7 f1 fd1 Q9 (Y4x CN CC CT))
   (D_whole_over : Def K mg "whole_over" Q9 A0t f2 fd2) (G_whole_over : sI P w K mg base 7 f2 fd2 Q9 (C6r CN CC CT)) (D_rest_of : Def K mg "rest_of" Q9 A7x f3 fd3) (G_rest_of : sI P w K mg base 8 f3 fd3 Q9 (Y7y CN CC CT))
   (D_root : Def K mg "root" Q39 C9u f4 fd4) (G_root : sI P w K mg base 7 f4 fd4 Q39 (Y6h CN CC CT)) (D_to_power : Def K mg "to_power" Q48 B7q f5 fd5) (G_to_power : sI P w K mg base 7 f5 fd5 Q48 (A0qt CN CC CT)) : sI P w K mg base 9 f fd Q43 (V3e CN CC CT) := by
 refine D.F.okE A0jj (fun vs H Q E h => ?_) (fun X cdv A outer s H vs Q E hX hr hx h => ?_)
 . obtain ⟨c, v, a, b, xs, ys, l, n1, n2, n3, x1, x2, x3, k, m, rfl, _⟩ := h
   rfl
 subst hX
 obtain ⟨c, v, a, b, xs, ys, l, n1, n2, n3, x1, x2, x3, n, m, rfl, hc, ok, lx, ox, el, tw, m3, h1, h2, h3, o1, o2, o3, f24, p0, p1, c0, c1, k⟩ := h
 refine ⟨_, (A3 (G4 (C7 G2 (pv 1) A1 (C6 _)) (A6 (B0 (C9 D_over G_over hr hx (A0 (pv 0) (A0 (D9 U6 (pv 2) A1 (fun _ _ => rfl)) (A0 (D9 U6 (pv 2) A1 (fun _ _ => rfl)) A5)))))) D0) (A3 (G4 (C7 G2 (pv 1) A1 (C6 _)) (A6 (B0 (C9 D_whole_over G_whole_over hr hx (A0 (pv 0) (A0 (D9 U6 (pv 2) A1 (fun _ _ => rfl)) (A0 (D9 U6 (pv 2) A1 (fun _ _ => rfl)) A5)))))) D0) (A3 (G4 (C7 G2 (pv 1) A1 (C6 _)) (A6 (B0 (C9 D_rest_of G_rest_of hr hx (A0 (pv 0) (A0 (D9 U6 (pv 2) A1 (fun _ _ => rfl)) (A0 (D9 U6 (pv 2) A1 (fun _ _ => rfl)) A5)))))) D0) (A3 (G4 (C7 G2 (pv 1) A1 (C6 _)) (A6 (B0 (C9 D_root G_root hr hx (A0 (pv 0) (A0 (D9 U6 (pv 2) A1 (fun _ _ => rfl)) A5))))) D0) (A6 (B0 (C9 D_to_power G_to_power hr hx (A0 (pv 0) (A0 (D9 U6 (pv 2) A1 (fun _ _ => rfl)) (A0 (pv 3) A5)))))))))), ?_⟩
 have f10 := o1.f0; have f11 := o1.f1; have f20 := o2.f0; have f21 := o2.f1
 unfold opR at k
 refine ⟨_, rfl, rfl, _, rfl, J1 (fun h => ?_) (fun h => ?_)⟩
 . rw [if_pos (V.int.inj h), <- A0fx h1 h2] at k
   exact ⟨_, rfl, _, rfl, l, _, _, _, rfl, rfl, SqL.of el, B7 (j := 0) rfl, _, rfl, l, _, _, _, rfl, rfl, SqL.of el, B7 (j := 1) rfl, c, v, a, b, xs, ys, n1, n2, x1, x2, _, rfl, hc, ok, lx, ox, tw, o1, o2, fun hq hf => A5h (C7p f10 hf f11).sz (C7p f20 hq.2.2 f21).sz _, k⟩
 rw [if_neg fun z => h (congrArg V.int z)] at k
 clear h
 refine ⟨_, rfl, rfl, _, rfl, J1 (fun h => ?_) (fun h => ?_)⟩
 . rw [if_pos (V.int.inj h), <- Y4j h1 h2] at k
   obtain ⟨w0, wT⟩ := G1v o1 o2
   exact ⟨_, rfl, _, rfl, l, _, _, _, rfl, rfl, SqL.of el, B7 (j := 0) rfl, _, rfl, l, _, _, _, rfl, rfl, SqL.of el, B7 (j := 1) rfl, c, v, a, b, xs, ys, n1, n2, x1, x2, _, rfl, hc, ok, lx, ox, tw, o1, o2, fun hq hf => A5h (SzL.sz ⟨by omega, wT⟩) A4n 0, k⟩
 rw [if_neg fun z => h (congrArg V.int z)] at k
 clear h
 refine ⟨_, rfl, rfl, _, rfl, J1 (fun h => ?_) (fun h => ?_)⟩
 . rw [if_pos (V.int.inj h), <- A0jm h1 h2] at k
   have pr : Y7x x1 x2 (V9 x1 x2 + A0r (Z9 x1 x2).f 1) := by
     unfold Y7x C8c
     rw [if_neg (fun z => by simp [h2] at z : ¬ x2.k = .end_)]
     intro _ hf
     by_cases hz : x2.f = 0
     . have e : (Z9 x1 x2).f = Y8 x1 (V9 x1 x2) := by
         show Y8 x1 (V9 x1 x2) - J9 x1 x2 * Y8 x2 (V9 x1 x2) = _
         unfold J9 Y8
         rw [hz, Int.zero_mul, Int.ediv_zero, Int.zero_mul, Int.sub_zero]
       have f1 : x1.f ≠ 0 := fun z => hf (by rw [e]; unfold Y8; rw [z, Int.zero_mul])
       have lb := D8w x1 x2
       have p10 := o1.p0; have p11 := o1.p1; have p20 := o2.p0; have p21 := o2.p1
       have sz := B5m (q := V9 x1 x2) o1 f1 (by omega)
       rw [<- e] at sz
       exact A5h sz.sz A4n _
     . obtain ⟨g0, g1, _⟩ := G1y o1 o2 hz
       exact A5h (SzL.sz ⟨by omega, g1⟩) A4n _
   exact ⟨_, rfl, _, rfl, l, _, _, _, rfl, rfl, SqL.of el, B7 (j := 0) rfl, _, rfl, l, _, _, _, rfl, rfl, SqL.of el, B7 (j := 1) rfl, c, v, a, b, xs, ys, n1, n2, x1, x2, _, rfl, hc, ok, lx, ox, tw, o1, o2, pr, k⟩
 rw [if_neg fun z => h (congrArg V.int z)] at k
 clear h
 refine ⟨_, rfl, rfl, _, rfl, J1 (fun h => ?_) (fun h => ?_)⟩
 . rw [if_pos (V.int.inj h)] at k
   exact ⟨_, rfl, _, rfl, l, _, _, _, rfl, rfl, SqL.of el, B7 (j := 0) rfl, c, v, a, b, xs, ys, n1, x1, rfl, hc, ok, lx, ox, tw.1, h1, o1, k⟩
 rw [if_neg fun z => h (congrArg V.int z)] at k
 exact ⟨_, rfl, _, rfl, l, _, _, _, rfl, rfl, SqL.of el, B7 (j := 2) rfl, _, rfl, c, v, a, b, xs, ys, n3, x3, m, rfl, hc, ok, lx, ox, m3, h3, o3, f24, p0, p1, c0, c1, k⟩
def V4e : Sp := fun vs H Q _ => ∃ pq q1 q2 x1 x2, ∃ m : Int, vs = [.ref pq, .int m] /\ H pq = some (.lst [.ref q1, .ref q2]) /\ J5 H q1 x1 /\ J5 H q2 x2 /\ 0 <= m /\
 ∀ q1 q2 x1 x2 H', Exc pq H H' -> H' pq = some (.lst [.ref q1, .ref q2]) -> J5 H' q1 x1 -> J5 H' q2 x2 -> Q (.ref pq) H'
theorem scLBent : C5 ["_law_parts", "_law_more", "_law_one", "_law_other", "_law_few", "_law_root_of"] Q51 (A2 B7t) := scK
theorem Y4k {f f1 : Addr} {fd fd1 : FuncData} (D : Def K mg "_law_bent" Q51 B7t f fd) (D_l_ten : Def K mg "_law_ten" Q10 B0y f1 fd1) (G_l_ten : sI P w K mg base 1 f1 fd1 Q10 B7n) (O : Own mg) : sI P w K mg base 2 f fd Q51 V4e := by
 refine D.F.okE scLBent (fun vs H Q E h => ?_) (fun X cdv A outer s H vs Q E hX hr hx h => ?_)
 . obtain ⟨pq, q1, q2, x1, x2, m, rfl, _⟩ := h
   rfl
 subst hX
 obtain ⟨pq, q1, q2, x1, x2, m, rfl, ep, a1, a2, m0, k⟩ := h
 refine ⟨_, (A3 (B5 (Y6e (i := 2) (j := 3) rfl scLBent.nd rfl rfl (Or.inl rfl) (Or.inl rfl) (U5 (A0 (D9 U6 (pv 0) A1 (fun _ _ => rfl)) (A0 (D9 U6 (pv 0) A1 (fun _ _ => rfl)) A5))))) (A3 (B5 (D3 (i := 4) scLBent.nd rfl (Or.inl rfl) (A9 J0 (D9 G3 (pv 3) A1 (fun _ _ => rfl)) (C9 D_l_ten G_l_ten hr hx (A0 A1 A5))))) (A3 (B5 (G4 (C7 G2 (A9 J0 (pv 1) A1) A1 (C6 _)) (A3 (B5 (A6e (U5 (A0 (D9 G3 (pv 2) A1 (fun _ _ => rfl)) (A0 (A9 G5 (pv 4) (A9 J0 (A9 D8 (pv 1) A1) A1)) (A0 (D9 G3 (pv 3) A1 (fun _ _ => rfl)) A5)))) (U1q (pv 0) A1 D0b))) (A6 (B5 (A6e (U5 (A0 (D9 G3 (pv 3) A1 (fun _ _ => rfl)) (A0 (pv 4) (A0 (D9 G3 (pv 3) A1 (fun _ _ => rfl)) A5)))) (U1q (pv 0) A1 D0b))))) D0)) (A3 (B5 (G4 (C7 G2 (A9 J0 (pv 1) A1) A1 (C6 _)) (A3 (B5 (D3 (i := 5) scLBent.nd rfl (Or.inl rfl) (A9 J0 (D9 G3 (pv 2) A1 (fun _ _ => rfl)) (C9 D_l_ten G_l_ten hr hx (A0 A1 A5))))) (A6 (B5 (A6e (U5 (A0 (A0k A1v (by rfl) O.int_ boot_int (A0 (G9 G2 (A9 J0 (pv 1) A1) A1 (C6 _)) A5)) (A0 (A9 G5 (pv 5) (pv 5)) (A0 (A9 G5 (A9 D8 (D9 G3 (pv 2) A1 (fun _ _ => rfl)) A1) A1) A5)))) (U1q (pv 0) A1 D0b))))) D0)) (A6 (B0 (pv 0))))))), ?_⟩
 have z2 : 2 <= sizeLine := D7 (by decide)
 have z3 : 3 <= sizeLine := D7 (by decide)
 have o1 := a1.o; have o2 := a2.o
 have p10 := o1.p0; have p11 := o1.p1; have p20 := o2.p0; have p21 := o2.p1
 refine ⟨fun σ' H' => C8 H H' /\ σ' = [sr pq, si m, sr q1, sr q2, none, none], ⟨_, rfl, pq, _, _, _, rfl, rfl, SqL.of ep, B7 (j := 0) rfl, _, rfl, pq, _, _, _, rfl, rfl, SqL.of ep, B7 (j := 1) rfl, z2, fun t nt => ⟨t, _, _, rfl, SqT.of A7, C8.upd nt, rfl⟩⟩, ?_⟩
 rintro σ' H1 ⟨s1, rfl⟩
 have b1 := a1.same s1; have b2 := a2.same s1
 have g0 := Int.emod_nonneg x2.f (Int.ne_of_gt (D4 20))
 have g1 := Int.emod_lt_of_pos x2.f (D4 20)
 refine ⟨fun σ' H' => H' = H1 /\ σ' = [sr pq, si m, sr q1, sr q2, si (x2.f % A4 20), none], ⟨_, rfl, q2, _, _, _, rfl, rfl, SqT.of b2.e, B7 (j := 1) rfl, 20, rfl, by decide, by decide, _, _, rfl, rfl, D4 _, rfl, rfl⟩, ?_⟩
 rintro σ' H2 ⟨rfl, rfl⟩
 generalize x2.f % A4 20 = fw at *
 have t20 : A4 20 = 100000000000000000000 := by decide +kernel
 have t60 : (10 : Int) ^ 60 - 1 >= 100000000000000000000 * 1000 := by decide +kernel
 have put : ∀ {G : Hp} {q : Addr} {j : Nat} {ys : List V} {z : Nm}, Exc pq H G -> G q = none -> G pq = some (.lst ys) -> z.Ok -> z.k = .plain -> Exc pq H (upd (upd G q (.tup z.pv)) pq (.lst (ys.set j (.ref q)))) /\ J5 (upd (upd G q (.tup z.pv)) pq (.lst (ys.set j (.ref q)))) q z /\ ∀ {b : Addr} {x : Nm}, J5 G b x -> J5 (upd (upd G q (.tup z.pv)) pq (.lst (ys.set j (.ref q)))) b x := fun {G q j ys z} xG nq e zo zk => by
   have u := C8.upd (o := .tup z.pv) nq
   have tp : ∀ {b : Addr} {xs : List V}, (upd G q (.tup z.pv)) b = some (.tup xs) -> (upd (upd G q (.tup z.pv)) pq (.lst (ys.set j (.ref q)))) b = some (.tup xs) := fun e' => by rw [G6 (A6y e' (u _ _ e) (by intro z; cases z))]; exact e'
   exact ⟨xG.trans ((Exc.of u).trans Exc.upd), ⟨tp A7, zo, zk⟩, fun h => ⟨tp (u _ _ h.e), h.o, h.k⟩⟩
 have s1' : Exc pq H H2 := Exc.of s1
 have ep2 := s1 _ _ ep
 refine ⟨fun σ' H' => ∃ r1 r2 y1 y2, Exc pq H H' /\ H' pq = some (.lst [.ref r1, .ref r2]) /\ J5 H' r1 y1 /\ J5 H' r2 y2 /\ J5 H' q1 x1 /\ σ' = [sr pq, si m, sr q1, sr q2, si fw, none], ?_, ?_⟩
 . refine ⟨_, rfl, _, _, rfl, rfl, (by decide : (0 : Int) < 5), rfl, _, rfl, J1 (fun h => ?_) (fun h => ⟨q1, q2, x1, x2, s1', ep2, b1, b2, b1, rfl⟩)⟩
   have c0 := Int.emod_nonneg (m / 5) (by decide : (1000 : Int) ≠ 0)
   have c1 := Int.emod_lt_of_pos (m / 5) (by decide : (0 : Int) < 1000)
   have mb : 0 <= fw * (m / 5 % 1000) /\ fw * (m / 5 % 1000) <= 100000000000000000000 * 1000 := ⟨Int.mul_nonneg g0 c0, Int.mul_le_mul (by omega) (by omega) c0 (by decide)⟩
   refine ⟨fun σ' H' => ∃ r1, Exc pq H H' /\ H' pq = some (.lst [.ref r1, .ref q2]) /\ J5 H' r1 ⟨.plain, x1.s, fw * (m / 5 % 1000), x2.p⟩ /\ J5 H' q1 x1 /\ J5 H' q2 x2 /\ σ' = [sr pq, si m, sr q1, sr q2, si fw, none], ?_, ?_⟩
   . refine ⟨_, rfl, q1, _, _, _, rfl, rfl, SqT.of b1.e, B7 (j := 0) rfl, _, rfl, _, rfl, _, _, rfl, rfl, dv (n := 5) (by decide) (by decide +kernel), _, _, rfl, rfl, (by decide : (0 : Int) < 1000), _, _, rfl, rfl, A2u.ok (.inr ⟨by omega, by omega⟩), _, rfl, q2, _, _, _, rfl, rfl, SqT.of b2.e, B7 (j := 2) rfl, z3, fun q nq => ?_⟩
     obtain ⟨d1, d2, d3⟩ := put (j := 0) (z := ⟨.plain, x1.s, fw * (m / 5 % 1000), x2.p⟩) s1' nq ep2 ⟨o1.s0, o1.s1, mb.1, by show fw * (m / 5 % 1000) <= 10 ^ 60 - 1; omega, o2.p0, o2.p1⟩ rfl
     exact ⟨_, rfl, pq, _, 0, 0, rfl, rfl, (C8.upd nq) _ _ ep2, rfl, q, d1, A7, d2, d3 b1, d3 b2, rfl⟩
   rintro σ' H3 ⟨r1, x3, e3, c1', d1, d2, rfl⟩
   refine ⟨_, ?_, fun _ _ h => h⟩
   refine ⟨_, rfl, q2, _, _, _, rfl, rfl, SqT.of d2.e, B7 (j := 0) rfl, _, rfl, _, rfl, q2, _, _, _, rfl, rfl, SqT.of d2.e, B7 (j := 2) rfl, z3, fun q nq => ?_⟩
   obtain ⟨w1, w2, w3⟩ := put (j := 1) (z := ⟨.plain, x2.s, fw, x2.p⟩) x3 nq e3 ⟨o2.s0, o2.s1, g0, by show fw <= 10 ^ 60 - 1; omega, o2.p0, o2.p1⟩ rfl
   exact ⟨_, rfl, pq, _, 1, 1, rfl, rfl, (C8.upd nq) _ _ e3, rfl, r1, q, _, _, w1, A7, w3 c1', w2, w3 d1, rfl⟩
 rintro σ' H3 ⟨r1, r2, y1, y2, x3, e3, c1, c2, d1, rfl⟩
 refine ⟨fun σ' H' => ∃ r1 r2 y1 y2 v5, Exc pq H H' /\ H' pq = some (.lst [.ref r1, .ref r2]) /\ J5 H' r1 y1 /\ J5 H' r2 y2 /\ σ' = [sr pq, si m, sr q1, sr q2, si fw, v5], ?_, ?_⟩
 . refine ⟨_, rfl, _, _, rfl, rfl, (by decide : (0 : Int) < 5), rfl, _, rfl, J1 (fun h => ?_) (fun h => ⟨r1, r2, y1, y2, none, x3, e3, c1, c2, rfl⟩)⟩
   have h0 := Int.emod_nonneg x1.f (Int.ne_of_gt (D4 24))
   have h1 := Int.emod_lt_of_pos x1.f (D4 24)
   refine ⟨fun σ' H' => H' = H3 /\ σ' = [sr pq, si m, sr q1, sr q2, si fw, si (x1.f % A4 24)], ⟨_, rfl, q1, _, _, _, rfl, rfl, SqT.of d1.e, B7 (j := 1) rfl, 24, rfl, by decide, by decide, _, _, rfl, rfl, D4 _, rfl, rfl⟩, ?_⟩
   rintro σ' H4 ⟨rfl, rfl⟩
   generalize x1.f % A4 24 = rt at *
   refine ⟨_, ?_, fun _ _ h => h⟩
   have t24 : A4 24 * A4 24 <= 10 ^ 60 - 1 := by decide +kernel
   have mb : 0 <= rt * rt /\ rt * rt <= A4 24 * A4 24 := ⟨Int.mul_nonneg h0 h0, Int.mul_le_mul (Int.le_of_lt h1) (Int.le_of_lt h1) h0 (Int.le_of_lt (D4 _))⟩
   have rb : Builtin.Int.intBits rt <= 2 ^ 20 := U1n h0 (Int.lt_of_lt_of_le h1 (V8 (by decide)))
   have d2 := dv (n := 2) (by decide) (by decide +kernel)
   refine ⟨_, rfl, _, _, rfl, rfl, (by decide : (0 : Int) < 55), rfl, .inr ⟨_, rfl, _, rfl, _, rfl, _, _, rfl, rfl, IntMulOk.of_bits rb rb, _, rfl, q1, _, _, _, rfl, rfl, SqT.of d1.e, B7 (j := 2) rfl, _, _, rfl, rfl, d2, _, _, rfl, rfl, A2u.ok (.inr ⟨by decide, by decide⟩), z3, fun q nq => ?_⟩⟩
   have sb : 0 <= (if decide (V.int (m % 55) = V.int 2) = true then (1 : Int) else 0) /\ (if decide (V.int (m % 55) = V.int 2) = true then (1 : Int) else 0) <= 1 := by cases decide (V.int (m % 55) = V.int 2) <;> decide
   obtain ⟨w1, w2, w3⟩ := put (j := 0) (z := ⟨.plain, if decide (V.int (m % 55) = V.int 2) = true then (1 : Int) else 0, rt * rt, x1.p / 2 * 2⟩) x3 nq e3 ⟨sb.1, sb.2, mb.1, by show rt * rt <= 10 ^ 60 - 1; omega, by show -200 <= x1.p / 2 * 2; omega, by show x1.p / 2 * 2 <= 200; omega⟩ rfl
   exact ⟨_, rfl, pq, _, 0, 0, rfl, rfl, (C8.upd nq) _ _ e3, rfl, q, r2, _, _, _, w1, A7, w2, w3 c2, rfl⟩
 rintro σ' H4 ⟨r1, r2, y1, y2, v5, x4, e4, c1, c2, rfl⟩
 exact ⟨_, rfl, k r1 r2 y1 y2 H4 x4 e4 c1 c2⟩
def rdS (zs : List Str) : PyData := .list (zs.map PyData.str)
def OkL (zs : List Str) : Prop := zs.length <= 100 /\ ∀ z ∈ zs, PyData.strOk z = true
theorem layS : ∀ {zs : List Str}, (∀ z ∈ zs, PyData.strOk z = true) -> PyData.canLayAll0 (zs.map PyData.str) = true /\ PyData.depthAll (zs.map PyData.str) <= 1
 | [], _ => by simp [PyData.canLayAll0, PyData.depthAll]
 | z :: zs, h => by
   obtain ⟨a, b⟩ := layS (zs := zs) fun z' h' => h z' (List.mem_cons_of_mem _ h')
   have c := h z List.mem_cons_self
   constructor
   . simp [PyData.canLayAll0, PyData.canLay0, c, a]
   . simp only [List.map_cons, PyData.depthAll, PyData.depth]
     omega
theorem shS {zs : List Str} (h : OkL zs) : SeqAt.shaped (rdS zs) = true := by
 obtain ⟨a, b⟩ := layS h.2
 unfold SeqAt.shaped rdS
 simp only [PyData.canLay0, PyData.depth, a, Bool.and_true, Bool.and_eq_true, decide_eq_true_eq, List.length_map]
 exact ⟨trivial, decide_eq_true (by omega)⟩
theorem eqSs : ∀ zs : List Str, PyData.eqv (rdS zs) (rdS zs) = true := by
 have h : ∀ zs : List Str, PyData.eqvAll (zs.map PyData.str) (zs.map PyData.str) = true := fun zs => by
   induction zs with
   | nil => simp [PyData.eqvAll]
   | cons z zs ih => simp [PyData.eqvAll, PyData.eqv, ih]
 intro zs
 simp [rdS, PyData.eqv, h]
theorem rdsS {K : Frag} {H : Hp} : ∀ zs : List Str, D0g K H (zs.map V.str) (zs.map PyData.str)
 | [] => .nil
 | z :: zs => .cons (.str z) (rdsS zs)
theorem Y7j {K : Frag} {H : Hp} {p : Addr} {zs : List Str} (h : H p = some (.lst (zs.map V.str))) : RdD K H (.ref p) (rdS zs) := .lst (SqL.of h) (rdsS zs)
theorem A0xu : ∀ z ∈ B8e, PyData.strOk z = true := by decide +kernel
def C1m (k : Str) (s f p : Int) : PyData := .tuple [.str k, .int s, .int f, .int p]
theorem shD {k : Str} (s f p : Int) (h : PyData.strOk k = true) : SeqAt.shaped (C1m k s f p) = true := by
 unfold SeqAt.shaped C1m
 simp [PyData.canLay0, PyData.canLayAll0, PyData.depth, PyData.depthAll, h]
theorem eqD (k : Str) (s f p : Int) : PyData.eqv (C1m k s f p) (C1m k s f p) = true := by
 simp [C1m, PyData.eqv, PyData.eqvAll]
theorem rdD {K : Frag} {H : Hp} {d : Addr} {k : Str} {s f p : Int} (h : H d = some (.tup [.str k, .int s, .int f, .int p])) : RdD K H (.ref d) (C1m k s f p) := .tup (SqT.of h) (.cons (.str _) (.cons (.int _) (.cons (.int _) (.cons (.int _) .nil))))
theorem okK (k : Kd) : PyData.strOk k.str = true := by cases k <;> decide +kernel
abbrev A4d : Stmt := (J2 (top 67) 4)
def B8a (CC : Addr) : Sp := fun vs H Q _ => ∃ c r y l m a b xs ys, vs = [.ref c] /\ A1s CC H c r y l m a b xs ys /\ ∀ a' H', Exc c H H' -> H a' = none -> A1s CC H' c r y l m a' b [] ys -> Q .non H'
theorem J9y : C5 ["self"] ["self"] (A2 A4d) := scK
theorem J4n {f CC : Addr} {fd : FuncData} (F : Fun K "clear" "Context.clear" A4d f fd) (C : D5f K mg CC) : sI P w K mg base 1 f fd ["self"] (B8a CC) := by
 refine A8.up (F.ok J9y (fun vs H Q E h => ?_) (fun cdv A outer s H vs Q E hr h => ?_))
 . obtain ⟨c, r, y, l, m, a, b, xs, ys, rfl, _⟩ := h
   rfl
 obtain ⟨c, r, y, l, m, a, b, xs, ys, rfl, ⟨⟨dx, e⟩, ha, hb⟩, k⟩ := h
 refine ⟨_, (A6 (Z6 (pv 0) (U4 A5) rfl)), ?_⟩
 refine ⟨Nat.zero_le _, fun p np => ?_⟩
 have u := C8.upd (o := .lst []) np
 refine ⟨_, rfl, c, CC, dx, _, rfl, u _ _ e, C.cl, C.n_risen, by rw [J4a]; decide, ?_⟩
 rw [C8t]
 have nac : p ≠ c := Ne.symm (G7 e np)
 have nbc : b ≠ c := A6y hb e (by intro z; cases z)
 exact k p _ ((Exc.of u).trans Exc.upd) np ⟨⟨dx, A7⟩, by rw [G6 nac]; exact A7, by rw [G6 nbc]; exact u _ _ hb⟩
abbrev G1q : Stmt := (top 104)
structure A5a (CN : Addr) (H : Hp) (fq pq lq q1 q2 q3 n1 n2 n3 : Addr) (v : Cv) (x1 x2 x3 : Nm) : Prop where
 fr : B8d H fq v
 ep : H pq = some (.lst [.ref q1, .ref q2, .ref q3])
 a1 : J5 H q1 x1
 a2 : J5 H q2 x2
 a3 : J5 H q3 x3
 el : H lq = some (.lst [.ref n1, .ref n2, .ref n3])
 m1 : V1 CN H n1 x1
 m2 : V1 CN H n2 x2
 m3 : V1 CN H n3 x3
theorem A5a.same {CN : Addr} {H H' : Hp} {fq pq lq q1 q2 q3 n1 n2 n3 : Addr} {v : Cv} {x1 x2 x3 : Nm} (h : A5a CN H fq pq lq q1 q2 q3 n1 n2 n3 v x1 x2 x3) (s : C8 H H') : A5a CN H' fq pq lq q1 q2 q3 n1 n2 n3 v x1 x2 x3 :=
 ⟨h.fr.same s, s _ _ h.ep, h.a1.same s, h.a2.same s, h.a3.same s, s _ _ h.el, h.m1.same s, h.m2.same s, h.m3.same s⟩
theorem A5a.exc {CN : Addr} {H H' : Hp} {fq pq lq q1 q2 q3 n1 n2 n3 c C0 d0 : Addr} {v : Cv} {x1 x2 x3 : Nm} {F : List (Str × V)} (h : A5a CN H fq pq lq q1 q2 q3 n1 n2 n3 v x1 x2 x3) (s : Exc c H H') (ec : H c = some (.ins C0 d0 F)) (c1 : n1 ≠ c) (c2 : n2 ≠ c) (c3 : n3 ≠ c) : A5a CN H' fq pq lq q1 q2 q3 n1 n2 n3 v x1 x2 x3 := by
 have tp : ∀ {q : Addr} {xs : List V}, H q = some (.tup xs) -> H' q = some (.tup xs) := fun e => s _ _ e (A6y e ec (by intro z; cases z))
 have ls : ∀ {q : Addr} {xs : List V}, H q = some (.lst xs) -> H' q = some (.lst xs) := fun e => s _ _ e (A6y e ec (by intro z; cases z))
 have nu : ∀ {n x}, n ≠ c -> V1 CN H n x -> V1 CN H' n x := fun ne ⟨dx, z⟩ => ⟨dx, s _ _ z ne⟩
 exact ⟨⟨tp h.fr.e, h.fr.ok⟩, ls h.ep, ⟨tp h.a1.e, h.a1.o, h.a1.k⟩, ⟨tp h.a2.e, h.a2.o, h.a2.k⟩, ⟨tp h.a3.e, h.a3.o, h.a3.k⟩, ls h.el, nu c1 h.m1, nu c2 h.m2, nu c3 h.m3⟩
theorem Y5e {ys : List V} (h : ys.length = 3) : ∃ a b c, ys = [a, b, c] := by
 match ys, h with
 | [a, b, c], _ => exact ⟨a, b, c, rfl⟩
theorem Y7r (zs : List Str) : OkL (Z1 zs) := ⟨Nat.le_trans (List.length_filter_le _ _) (by decide +kernel), fun z hz => A0xu z (List.mem_filter.mp hz).1⟩
def J4x (x1 x2 x3 : Nm) : PyData := .list [C1m x1.k.str x1.s x1.f x1.p, C1m x2.k.str x2.s x2.f x2.p, C1m x3.k.str x3.s x3.f x3.p]
theorem sh3 (x1 x2 x3 : Nm) : SeqAt.shaped (J4x x1 x2 x3) = true := by
 unfold SeqAt.shaped J4x C1m
 simp [PyData.canLay0, PyData.canLayAll0, PyData.depth, PyData.depthAll, okK]
theorem eq3 (x1 x2 x3 : Nm) : PyData.eqv (J4x x1 x2 x3) (J4x x1 x2 x3) = true := by
 simp [J4x, C1m, PyData.eqv, PyData.eqvAll]
theorem rd3 {K : Frag} {H : Hp} {d t1 t2 t3 : Addr} {x1 x2 x3 : Nm} (h : H d = some (.lst [.ref t1, .ref t2, .ref t3])) (h1 : H t1 = some (.tup x1.vs)) (h2 : H t2 = some (.tup x2.vs)) (h3 : H t3 = some (.tup x3.vs)) : RdD K H (.ref d) (J4x x1 x2 x3) :=
 .lst (SqL.of h) (.cons (rdD h1) (.cons (rdD h2) (.cons (rdD h3) .nil)))
def Y7b {α : Type} (a b c : α) : Nat -> α
 | 0 => a
 | 1 => b
 | _ => c
theorem get3 {a b c x : V} {i : Nat} (h : [a, b, c][i]? = some x) : i < 3 /\ x = Y7b a b c i := by
 rcases i with _ | _ | _ | i
 . cases h; exact ⟨by decide, rfl⟩
 . cases h; exact ⟨by decide, rfl⟩
 . cases h; exact ⟨by decide, rfl⟩
 cases h
theorem at3' {a b c : V} {i : Nat} (h : i < 3) : [a, b, c][i]? = some (Y7b a b c i) := by
 rcases (by omega : i = 0 \/ i = 1 \/ i = 2) with rfl | rfl | rfl <;> rfl
theorem at2 (a b n : Int) : ∃ v, (v = a \/ v = b) /\ atI ([.int a, .int b] : List V) (n % 2) = some (.int v) := by
 rcases (by omega : n % 2 = 0 \/ n % 2 = 1) with h | h
 . exact ⟨a, .inl rfl, by rw [h]; exact B7 (j := 0) rfl⟩
 exact ⟨b, .inr rfl, by rw [h]; exact B7 (j := 1) rfl⟩
def V2p (K : Frag) : Sp := fun vs H Q _ => ∃ a ns, vs = [.ref a] /\ (ns : List Int).length <= 63 /\ SqL K H a (ns.map V.int) /\ ∀ H', Q (.bl true) H'
theorem scLaw : C5 ["_law_script", "_law_frame_here", "_law_more", "_law_parts", "_law_few", "_law_numbers", "_law_count_here", "_law_context_here", "_law_k", "_law_way", "_law_due_here", "_law_names", "_law_found"] ["_law_script"] (A2 G1q) := scK
theorem A0tp {f f1 f2 f3 f4 f5 f6 f7 f8 f9 g1 CC CN CB CT : Addr} {fd fd1 fd2 fd3 fd4 fd5 fd6 fd7 fd8 fd9 gd1 : FuncData} (D : Def K mg "law" ["_law_script"] G1q f fd)
   (D_l_cell_at : Def K mg "_law_cell_at" Q36 C9j f1 fd1) (G_l_cell_at : sI P w K mg base 1 f1 fd1 Q36 (Y6g K)) (D_l_mixed : Def K mg "_law_mixed" Q18 A7r f2 fd2) (G_l_mixed : sI P w K mg base 1 f2 fd2 Q18 C7n)
   (D_l_frame : Def K mg "_law_frame" ["_law_cell"] A8d f3 fd3) (G_l_frame : sI P w K mg base 1 f3 fd3 ["_law_cell"] J5j) (D_l_plain : Def K mg "_law_plain" Q19 A7z f4 fd4) (G_l_plain : sI P w K mg base 3 f4 fd4 Q19 J4e)
   (D_l_context : Def K mg "_law_context" Q37 C8f f5 fd5) (G_l_context : sI P w K mg base 5 f5 fd5 Q37 (Y5p CC)) (D_l_due : Def K mg "_law_due" Q42 C9t f6 fd6) (G_l_due : sI P w K mg base 7 f6 fd6 Q42 Y6p)
   (D_l_told : Def K mg "_law_told" Q43 B7j f7 fd7) (G_l_told : sI P w K mg base 9 f7 fd7 Q43 (V3e CN CC CT)) (D_l_bent : Def K mg "_law_bent" Q51 B7t g1 gd1) (G_l_bent : sI P w K mg base 2 g1 gd1 Q51 V4e)
   (D_plain : Def K mg "plain" Q32 B7h f8 fd8) (G_plain : sI P w K mg base 3 f8 fd8 Q32 (V2v K CN CB)) (D_told : Def K mg "told" ["number"] C9s f9 fd9) (G_told : sI P w K mg base 2 f9 fd9 ["number"] (Y7t K CN CB))
   (C : D5f K mg CC) (MF : Has P w K mg base CC "flags" 1 ["self"] (B8b CC)) (ME : Has P w K mg base CC "clear" 1 ["self"] (B8a CC)) (O : Own mg) : sI P w K mg base 10 f fd ["_law_script"] (V2p K) := by
 refine D.F.okE scLaw (fun vs H Q E h => ?_) (fun X cdv A outer s H vs Q E hX hr hx h => ?_)
 . obtain ⟨a, ns, rfl, _⟩ := h
   rfl
 subst hX
 obtain ⟨sc, ns, rfl, n63, hS, kk⟩ := h
 obtain ⟨ff, fdf, mf, gf, bf⟩ := MF
 obtain ⟨fe, fde, me, ge, be⟩ := ME
 refine ⟨_, (A3 (B5 (D3 (i := 1) scLaw.nd rfl (Or.inl rfl) (C9 D_l_frame G_l_frame hr hx (A0 (C9 D_l_mixed G_l_mixed hr hx (A0 (C9 D_l_cell_at G_l_cell_at hr hx (A0 (pv 0) (A0 A1 A5))) (A0 A1 A5))) A5)))) (A3 (B5 (D3 (i := 2) scLaw.nd rfl (Or.inl rfl) (C9 D_l_mixed G_l_mixed hr hx (A0 (C9 D_l_cell_at G_l_cell_at hr hx (A0 (pv 0) (A0 A1 A5))) (A0 A1 A5))))) (A3 (B5 (D3 (i := 3) scLaw.nd rfl (Or.inl rfl) (C9 D_l_bent G_l_bent hr hx (A0 (U4 (A0 (C9 D_l_plain G_l_plain hr hx (A0 (C9 D_l_cell_at G_l_cell_at hr hx (A0 (pv 0) (A0 A1 A5))) (A0 A1 A5))) (A0 (C9 D_l_plain G_l_plain hr hx (A0 (C9 D_l_cell_at G_l_cell_at hr hx (A0 (pv 0) (A0 A1 A5))) (A0 A1 A5))) A5))) (A0 (pv 2) A5))))) (A3 (B5 (D3 (i := 4) scLaw.nd rfl (Or.inl rfl) (C9 D_l_plain G_l_plain hr hx (A0 (C9 D_l_cell_at G_l_cell_at hr hx (A0 (pv 0) (A0 A1 A5))) (A0 A1 A5))))) (A3 (B5 (V7 (A0ys PySem.F.plainAttrs_list PySem.F.slot_list_append PySem.F.type_list_append B5t (pv 3) (A0 (U5 (A0 (D9 G3 (pv 4) A1 (fun _ _ => rfl)) (A0 (D9 G3 (pv 4) A1 (fun _ _ => rfl)) (A0 (A9 J8 (A9 J0 (D9 G3 (pv 4) A1 (fun _ _ => rfl)) A1) A1) A5)))) A5)))) (A3 (B5 (Y4h (i := 5) (N := ["_law_part"]) ⟨rfl, by decide +kernel, by decide +kernel, by decide +kernel, by decide +kernel⟩ (.inl hr.hd) (C0b (pv 3)) rfl (fun C s₀ H₀ ex pn h => J7 (i := 0) (by decide +kernel : (["_law_part"] : List Str).Nodup) rfl (Or.inl rfl)) (fun C s₀ H₀ ex pn h => (Y7v D_plain G_plain hr (A0 (D9 (B5r (K := K) rfl) (pv 0) A1 (fun _ _ => rfl)) (A0 (D9 (B5r (K := K) rfl) (pv 0) A1 (fun _ _ => rfl)) (A0 (D9 (B5r (K := K) rfl) (pv 0) A1 (fun _ _ => rfl)) A5))))) scLaw.nd rfl rfl)) (A3 (B5 (D3 (i := 6) scLaw.nd rfl (Or.inl rfl) (D9 U6 (U4 (A0 (A9 J8 (A9 J0 (A9 D8 (pv 2) A1) A1) A1) (A0 (A9 J8 (A9 J0 (A9 D8 (pv 2) A1) A1) A1) A5))) (A9 J0 (A9 D8 (pv 2) A1) A1) (fun _ _ => rfl)))) (A3 (B5 (D3 (i := 7) scLaw.nd rfl (Or.inl rfl) (C9 D_l_context G_l_context hr hx (A0 (pv 1) A5)))) (A3 (B5 (B7y PassesOwn.leaving rfl (B5u rfl O.range_ (A0 A1 A5)) (J7 (i := 8) scLaw.nd rfl (Or.inl rfl)) (A3 (B5 (D3 (i := 9) scLaw.nd rfl (Or.inl rfl) (A9 J0 (A9 J4 (A9 D8 (pv 2) A1) (A9 G5 (pv 8) (A9 J4 A1 (A9 J0 (A9 D8 (pv 2) A1) A1)))) A1))) (A3 (B5 (A6e (C9 D_l_due G_l_due hr hx (A0 (pv 1) (A0 (pv 9) (A0 (pv 3) (A0 (pv 6) A5))))) (B7g rfl (U9 (J7 (i := 10) scLaw.nd rfl (Or.inl rfl)) (U9 (J7 (i := 11) scLaw.nd rfl (Or.inl rfl)) A7u))))) (A3 (B5 (D3 (i := 12) scLaw.nd rfl (Or.inl rfl) (C9 D_l_told G_l_told hr hx (A0 (pv 7) (A0 (pv 9) (A0 (pv 5) (A0 (pv 6) A5))))))) (A3 (B5 (G4 (PW.pt (D8x (C7 (Y7s hr.units) (C9 D_told G_told hr hx (A0 (pv 12) A5)) (pv 10) (C6 _)) (C1v (C7 (Y7s hr.units) (A6d (pv 7) C.cl mf gf hr bf .nil hx) (pv 11) (C6 _))))) (A6 (B0 A3k)) D0)) (A6 (B5 (V7 (A6d (pv 7) C.cl me ge hr be .nil hx)))))))))) (A6 (B0 (G9 (A0sk hr.units) (J5b (N := ["_law_number"]) ⟨rfl, by decide +kernel, by decide +kernel, by decide +kernel, by decide +kernel⟩ (.inl hr.hd) (C0b (pv 5)) rfl (fun C s₀ H₀ ex pn h => J7 (i := 0) (by decide +kernel : (["_law_number"] : List Str).Nodup) rfl (Or.inl rfl)) (fun C s₀ H₀ ex pn h => (Y7v D_told G_told hr (A0 (pv 0) A5)))) (J5b (N := ["_law_part"]) ⟨rfl, by decide +kernel, by decide +kernel, by decide +kernel, by decide +kernel⟩ (.inl hr.hd) (C0b (pv 3)) rfl (fun C s₀ H₀ ex pn h => J7 (i := 0) (by decide +kernel : (["_law_part"] : List Str).Nodup) rfl (Or.inl rfl)) (fun C s₀ H₀ ex pn h => (U5 (A0 D5 (A0 (D9 (B5r (K := K) rfl) (pv 0) A1 (fun _ _ => rfl)) (A0 (D9 (B5r (K := K) rfl) (pv 0) A1 (fun _ _ => rfl)) (A0 (D9 (B5r (K := K) rfl) (pv 0) A1 (fun _ _ => rfl)) A5))))))) (C6 _))))))))))))), ?_⟩
 have z2 : 2 <= sizeLine := D7 (by decide)
 have z3 : 3 <= sizeLine := D7 (by decide)
 have z4 : 4 <= sizeLine := D7 (by decide)
 have mC' : ∀ z n : Int, -(2 ^ 64) < n -> n < 2 ^ 64 -> IntMulOk n z := fun z n a b => A2u.ok (.inl ⟨a, b⟩)
 refine ⟨fun σ' H' => ∃ fq v, C8 H H' /\ B8d H' fq v /\ σ' = [sr sc, sr fq, none, none, none, none, none, none, none, none, none, none, none], ?_, ?_⟩
 . exact ⟨_, rfl, sc, ns, 0, rfl, hS, by decide, fun c0 => ⟨c0, 0, rfl, by decide, by decide, fun m m0 _ => ⟨m, rfl, m0, fun r y l m q H' fo s' e => ⟨q, ⟨r, y, l, m⟩, s', ⟨e, fo⟩, rfl⟩⟩⟩⟩
 rintro σ' H1 ⟨fq, v, s1, fr, rfl⟩
 refine ⟨fun σ' H' => ∃ m : Int, H' = H1 /\ 0 <= m /\ σ' = [sr sc, sr fq, si m, none, none, none, none, none, none, none, none, none, none], ⟨_, rfl, sc, ns, 4, rfl, s1.seq hS, by decide, fun c0 => ⟨c0, 4, rfl, by decide, by decide, fun m m0 _ => ⟨m, rfl, m0, rfl⟩⟩⟩, ?_⟩
 rintro σ' H2 ⟨m, rfl, m0, rfl⟩
 refine ⟨fun σ' H' => ∃ pq q1 q2 x1 x2, C8 H H' /\ H pq = none /\ B8d H' fq v /\ H' pq = some (.lst [.ref q1, .ref q2]) /\ J5 H' q1 x1 /\ J5 H' q2 x2 /\ σ' = [sr sc, sr fq, si m, sr pq, none, none, none, none, none, none, none, none, none], ?_, ?_⟩
 . refine ⟨_, rfl, sc, ns, 1, rfl, s1.seq hS, by decide, fun c1 => ⟨c1, 60, rfl, by decide, by decide, fun x1 q1 H3 k1 o1 _ s3 e1 => ?_⟩⟩
   refine ⟨_, rfl, sc, ns, 2, rfl, (s1.trans s3).seq hS, by decide, fun c2 => ⟨c2, 60, rfl, by decide, by decide, fun x2 q2 H4 k2 o2 _ s4 e2 => ⟨z2, fun pq np => ?_⟩⟩⟩
   have u := C8.upd (o := .lst [.ref q1, .ref q2]) np
   refine ⟨_, rfl, pq, q1, q2, x1, x2, m, rfl, A7, ⟨(s4.trans u) _ _ e1, o1, k1⟩, ⟨u _ _ e2, o2, k2⟩, m0, fun r1 r2 y1 y2 H5 x5 e5 c1 c2 => ?_⟩
   have sm : C8 H H4 := s1.trans (s3.trans s4)
   have npH := sm.free np
   have f5 := (fr.same (s3.trans s4)).same u
   exact ⟨pq, r1, r2, y1, y2, fun b o hb => x5 b o (u _ _ (sm _ _ hb)) (G7 hb npH), npH, ⟨x5 _ _ f5.e (A6y f5.e A7 (by intro z; cases z)), f5.ok⟩, e5, c1, c2, rfl⟩
 clear fr s1
 rintro σ' H3 ⟨pq, q1, q2, x1, x2, s3, np, fr, ep, p1, p2, rfl⟩
 refine ⟨fun σ' H' => ∃ q3 x3, C8 H3 H' /\ J5 H' q3 x3 /\ x3.f < A4 24 /\ σ' = [sr sc, sr fq, si m, sr pq, sr q3, none, none, none, none, none, none, none, none], ⟨_, rfl, sc, ns, 3, rfl, s3.seq hS, by decide, fun c1 => ⟨c1, 24, rfl, by decide, by decide, fun x3 q3 H4 k3 o3 f3 s4 e3 => ⟨q3, x3, s4, ⟨e3, o3, k3⟩, f3, rfl⟩⟩⟩, ?_⟩
 rintro σ' H4 ⟨w3, y3, s4, pw, f24, rfl⟩
 refine ⟨fun σ' H' => ∃ q3 x3, C8 H H' /\ B8d H' fq v /\ H' pq = some (.lst [.ref q1, .ref q2, .ref q3]) /\ J5 H' q1 x1 /\ J5 H' q2 x2 /\ J5 H' q3 x3 /\ x3.f < A4 24 /\ -60 <= x3.p /\ x3.p <= 60 /\ σ' = [sr sc, sr fq, si m, sr pq, sr w3, none, none, none, none, none, none, none, none], ?_, ?_⟩
 . have e4 := s4 _ _ ep
   have b0 := Int.emod_nonneg y3.p (by decide : (121 : Int) ≠ 0)
   have b1 := Int.emod_lt_of_pos y3.p (by decide : (0 : Int) < 121)
   refine ⟨_, rfl, .inl ⟨rfl, _, SqL.of e4⟩, _, rfl, w3, _, _, _, rfl, rfl, SqT.of pw.e, B7 (j := 0) rfl, _, rfl, w3, _, _, _, rfl, rfl, SqT.of pw.e, B7 (j := 1) rfl, _, rfl, w3, _, _, _, rfl, rfl, SqT.of pw.e, B7 (j := 2) rfl, _, _, rfl, rfl, (by decide : (0 : Int) < 121), _, _, rfl, rfl, z3, fun q nq => ?_⟩
   have u := C8.upd (o := .tup (Nm.pv ⟨.plain, y3.s, y3.f, y3.p % 121 - 60⟩)) nq
   have e5 := u _ _ e4
   refine ⟨pq, _, _, rfl, rfl, e5, Nat.lt_of_le_of_lt (show 2 <= 1000 by decide) (A0y (Nat.le_refl _)), ?_⟩
   have tp : ∀ {b : Addr} {xs : List V}, (upd H4 q (.tup (Nm.pv ⟨.plain, y3.s, y3.f, y3.p % 121 - 60⟩))) b = some (.tup xs) -> (upd (upd H4 q (.tup (Nm.pv ⟨.plain, y3.s, y3.f, y3.p % 121 - 60⟩))) pq (.lst [.ref q1, .ref q2, .ref q])) b = some (.tup xs) := fun e' => by rw [G6 (A6y e' e5 (by intro z; cases z))]; exact e'
   have pt : ∀ {b x}, J5 H3 b x -> J5 (upd (upd H4 q (.tup (Nm.pv ⟨.plain, y3.s, y3.f, y3.p % 121 - 60⟩))) pq (.lst [.ref q1, .ref q2, .ref q])) b x := fun h => ⟨tp ((s4.trans u) _ _ h.e), h.o, h.k⟩
   refine ⟨q, ⟨.plain, y3.s, y3.f, y3.p % 121 - 60⟩, fun b o hb => ?_, ⟨tp ((s4.trans u) _ _ fr.e), fr.ok⟩, A7, pt p1, pt p2, ⟨tp A7, ⟨pw.o.s0, pw.o.s1, pw.o.f0, pw.o.f1, by show -200 <= y3.p % 121 - 60; omega, by show y3.p % 121 - 60 <= 200; omega⟩, rfl⟩, f24, by show -60 <= y3.p % 121 - 60; omega, by show y3.p % 121 - 60 <= 60; omega, rfl⟩
   show upd _ pq _ b = _
   rw [G6 (G7 hb np)]
   exact u _ _ (s4 _ _ (s3 _ _ hb))
 clear s3 fr ep p1 p2 pw s4 f24
 rintro σ' H5 ⟨q3, x3, s2, fr, ep, p1, p2, p3, f24, pl, ph, rfl⟩
 have o1 := p1.o; have o2 := p2.o; have o3 := p3.o
 have k1 := p1.k; have k2 := p2.k; have k3 := p3.k
 refine ⟨fun σ' H' => ∃ lq n1 n2 n3, C8 H H' /\ A5a CN H' fq pq lq q1 q2 q3 n1 n2 n3 v x1 x2 x3 /\ σ' = [sr sc, sr fq, si m, sr pq, sr w3, sr lq, none, none, none, none, none, none, none], ?_, ?_⟩
 . refine ⟨_, rfl, pq, rfl, ⟨_, SqL.of ep⟩, B5j (J := Itl K pq) (n := 3) (fun i y H' => ∃ n, y = .ref n /\ V1 CN H' n (Y7b x1 x2 x3 i)) (by decide) (fun i y H1 H2 D l h hD e => ?_) (fun i H3 Qy hi sm hy => ⟨⟨_, _, SqL.of (sm _ _ ep), at3' hi⟩, fun x H4 yl => ?_⟩) (fun H3 sm => ⟨_, SqL.of (sm _ _ ep), Nat.le_refl _⟩) (fun D H' ys sm nD eD hlen hR => ?_)⟩
   . obtain ⟨n, rfl, hn⟩ := h
     exact ⟨n, rfl, hn.exc hD e⟩
   . obtain ⟨rfl, yl⟩ := yl
     have ex := (get3 (yl _ (SqL.of (sm _ _ ep)))).2
     subst ex
     rcases (by omega : i = 0 \/ i = 1 \/ i = 2) with rfl | rfl | rfl
     . have e := sm _ _ p1.e
       exact ⟨_, rfl, q1, _, _, _, rfl, rfl, SqT.of e, B7 (j := 0) rfl, _, rfl, q1, _, _, _, rfl, rfl, SqT.of e, B7 (j := 1) rfl, _, rfl, q1, _, _, _, rfl, rfl, SqT.of e, B7 (j := 2) rfl, _, _, _, rfl, .inl ⟨⟨_, rfl, o1.s0, o1.s1⟩, ⟨_, rfl, o1.f0, o1.f1⟩, ⟨_, rfl, o1.p0, o1.p1⟩, fun n H' nn s' num => hy _ _ s' ⟨n, rfl, by show V1 CN H' n x1; unfold V1; rw [k1]; exact num⟩⟩⟩
     . have e := sm _ _ p2.e
       exact ⟨_, rfl, q2, _, _, _, rfl, rfl, SqT.of e, B7 (j := 0) rfl, _, rfl, q2, _, _, _, rfl, rfl, SqT.of e, B7 (j := 1) rfl, _, rfl, q2, _, _, _, rfl, rfl, SqT.of e, B7 (j := 2) rfl, _, _, _, rfl, .inl ⟨⟨_, rfl, o2.s0, o2.s1⟩, ⟨_, rfl, o2.f0, o2.f1⟩, ⟨_, rfl, o2.p0, o2.p1⟩, fun n H' nn s' num => hy _ _ s' ⟨n, rfl, by show V1 CN H' n x2; unfold V1; rw [k2]; exact num⟩⟩⟩
     . have e := sm _ _ p3.e
       exact ⟨_, rfl, q3, _, _, _, rfl, rfl, SqT.of e, B7 (j := 0) rfl, _, rfl, q3, _, _, _, rfl, rfl, SqT.of e, B7 (j := 1) rfl, _, rfl, q3, _, _, _, rfl, rfl, SqT.of e, B7 (j := 2) rfl, _, _, _, rfl, .inl ⟨⟨_, rfl, o3.s0, o3.s1⟩, ⟨_, rfl, o3.f0, o3.f1⟩, ⟨_, rfl, o3.p0, o3.p1⟩, fun n H' nn s' num => hy _ _ s' ⟨n, rfl, by show V1 CN H' n x3; unfold V1; rw [k3]; exact num⟩⟩⟩
   . obtain ⟨y1, y2, y3, rfl⟩ := Y5e hlen
     obtain ⟨n1, rfl, h1⟩ := hR 0 _ rfl
     obtain ⟨n2, rfl, h2⟩ := hR 1 _ rfl
     obtain ⟨n3, rfl, h3⟩ := hR 2 _ rfl
     exact ⟨D, n1, n2, n3, s2.trans sm, ⟨fr.same sm, sm _ _ ep, p1.same sm, p2.same sm, p3.same sm, eD, h1, h2, h3⟩, rfl⟩
 clear s2 fr ep p1 p2 p3
 rintro σ' H6 ⟨lq, n1, n2, n3, s6, b6, rfl⟩
 refine ⟨fun σ' H' => ∃ ct : Int, C8 H6 H' /\ -20 <= ct /\ ct <= 20 /\ σ' = [sr sc, sr fq, si m, sr pq, sr w3, sr lq, si ct, none, none, none, none, none, none], ?_, ?_⟩
 . obtain ⟨ct, hct, ix⟩ := at2 (m / 20 % 41 - 20) (m / 20 % 9 - 4) (m / 820)
   have b0 := Int.emod_nonneg (m / 20) (by decide : (41 : Int) ≠ 0)
   have b1 := Int.emod_lt_of_pos (m / 20) (by decide : (0 : Int) < 41)
   have c0 := Int.emod_nonneg (m / 20) (by decide : (9 : Int) ≠ 0)
   have c1 := Int.emod_lt_of_pos (m / 20) (by decide : (0 : Int) < 9)
   have d20 := dv (n := 20) (by decide) (by decide +kernel)
   refine ⟨_, rfl, _, _, rfl, rfl, d20, _, _, rfl, rfl, (by decide : (0 : Int) < 41), _, _, rfl, rfl, _, rfl, _, _, rfl, rfl, d20, _, _, rfl, rfl, (by decide : (0 : Int) < 9), _, _, rfl, rfl, z2, fun p np => ⟨_, rfl, _, _, rfl, rfl, dv (n := 820) (by decide) (by decide +kernel), _, _, rfl, rfl, (by decide : (0 : Int) < 2), p, _, _, _, rfl, rfl, SqL.of A7, ix, ct, C8.upd np, ?_, ?_, rfl⟩⟩
   . rcases hct with rfl | rfl <;> omega
   . rcases hct with rfl | rfl <;> omega
 rintro σ' H7 ⟨ct, s7, t0, t1, rfl⟩
 have b7 := b6.same s7
 refine ⟨fun σ' H' => ∃ c a b, A5a CN H' fq pq lq q1 q2 q3 n1 n2 n3 v x1 x2 x3 /\ A0n CC H' c v a b [] [] /\ n1 ≠ c /\ n2 ≠ c /\ n3 ≠ c /\ σ' = [sr sc, sr fq, si m, sr pq, sr w3, sr lq, si ct, sr c, none, none, none, none, none], ?_, ?_⟩
 . refine ⟨_, rfl, fq, v.r, v.y, v.l, v.m, rfl, b7.fr.e, b7.fr.ok, fun c a b H' nc s' hc => ⟨c, a, b, b7.same s', hc, ?_, ?_, ?_, rfl⟩⟩
   . obtain ⟨dx, e⟩ := b7.m1; exact G7 e nc
   . obtain ⟨dx, e⟩ := b7.m2; exact G7 e nc
   . obtain ⟨dx, e⟩ := b7.m3; exact G7 e nc
 clear b6 b7
 rintro σ' H8 ⟨c, a, b, b8, hc8, nc1, nc2, nc3, rfl⟩
 refine ⟨fun σ' H' => ∃ v8 v9 v10 v11 v12, A5a CN H' fq pq lq q1 q2 q3 n1 n2 n3 v x1 x2 x3 /\ σ' = [sr sc, sr fq, si m, sr pq, sr w3, sr lq, si ct, sr c, v8, v9, v10, v11, v12], ?_, ?_⟩
 . refine ⟨5, rfl, by decide, by decide, B5v (n := 5) (fun i σ' H' => ∃ a v8 v9 v10 v11 v12, A5a CN H' fq pq lq q1 q2 q3 n1 n2 n3 v x1 x2 x3 /\ A0n CC H' c v a b [] [] /\ σ' = [sr sc, sr fq, si m, sr pq, sr w3, sr lq, si ct, sr c, v8, v9, v10, v11, v12]) ⟨a, none, none, none, none, none, b8, hc8, rfl⟩ ?_ (fun σ' H' ⟨a, v8, v9, v10, v11, v12, bb, _, e⟩ => ⟨v8, v9, v10, v11, v12, bb, e⟩)⟩
   clear b8 hc8 a
   rintro i σ' H9 hi ⟨a, v8, v9, v10, v11, v12, b9, hc9, rfl⟩
   refine ⟨fun σ' H' => ∃ wy : Int, H' = H9 /\ σ' = [sr sc, sr fq, si m, sr pq, sr w3, sr lq, si ct, sr c, si (0 + (i : Int)), si wy, v10, v11, v12], ?_, ?_⟩
   . exact ⟨_, rfl, _, _, rfl, rfl, dv (n := 1640) (by decide) (by decide +kernel), _, rfl, _, rfl, _, _, rfl, rfl, dv (n := 8200) (by decide) (by decide +kernel), _, _, rfl, rfl, (by decide : (0 : Int) < 4), _, _, rfl, rfl, _, _, rfl, rfl, mC' _ _ (by omega) (by omega), _, _, rfl, rfl, _, _, rfl, rfl, (by decide : (0 : Int) < 5), _, rfl, rfl⟩
   rintro σ' H10 ⟨wy, rfl, rfl⟩
   have ok := b9.fr.cv
   refine ⟨fun σ' H' => ∃ dt dl, C8 H10 H' /\ H' dt = some (.tup (opR v wy x1 x2 x3 ct).1.vs) /\ H' dl = some (.lst ((Z1 (opR v wy x1 x2 x3 ct).2).map V.str)) /\ σ' = [sr sc, sr fq, si m, sr pq, sr w3, sr lq, si ct, sr c, si (0 + (i : Int)), si wy, sr dt, sr dl, v12], ?_, ?_⟩
   . exact ⟨_, rfl, _, rfl, _, rfl, _, rfl, fq, v, pq, q1, q2, q3, x1, x2, x3, wy, ct, rfl, b9.fr, b9.ep, b9.a1, b9.a2, b9.a3, f24, pl, ph, t0, t1, fun q H' s' ⟨dt, dl, eq, et, el⟩ => ⟨q, _, rfl, SqT.of eq, rfl, _, _, rfl, _, _, rfl, rfl, dt, dl, s', et, el, rfl⟩⟩
   rintro σ' H11 ⟨dt, dl, s11, et, el, rfl⟩
   have b11 := b9.same s11
   have hc11 := hc9.same s11
   obtain ⟨dx, ec⟩ := hc11.ins
   generalize hop : opR v wy x1 x2 x3 ct = op at *
   refine ⟨fun σ' H' => ∃ fm a, A5a CN H' fq pq lq q1 q2 q3 n1 n2 n3 v x1 x2 x3 /\ A0n CC H' c v a b (Z1 op.2) [] /\ V1 CN H' fm op.1 /\ H' dt = some (.tup op.1.vs) /\ H' dl = some (.lst ((Z1 op.2).map V.str)) /\ σ' = [sr sc, sr fq, si m, sr pq, sr w3, sr lq, si ct, sr c, si (0 + (i : Int)), si wy, sr dt, sr dl, sr fm], ?_, ?_⟩
   . refine ⟨_, rfl, _, rfl, _, rfl, _, rfl, c, v, a, b, [], [], lq, n1, n2, n3, x1, x2, x3, wy, ct, rfl, hc11, ok, Nat.zero_le _, by decide +kernel, b11.el, ⟨b11.m1, b11.m2⟩, b11.m3, k1, k2, k3, o1, o2, o3, f24, pl, ph, t0, t1, ?_, ?_⟩
     . intro _ fm a' H' x' ct' nm
       rw [hop] at ct' nm
       exact ⟨fm, a', b11.exc x' ec nc1 nc2 nc3, ct', nm, x' _ _ et (A6y et ec (by intro z; cases z)), x' _ _ el (A6y el ec (by intro z; cases z)), rfl⟩
     . intro z hz
       cases hz
   clear b11 hc11 ec et el s11 b9 hc9
   rintro σ' H12 ⟨fm, a, b12, hc12, num, et, el, rfl⟩
   obtain ⟨dx, ec⟩ := hc12.ins
   refine ⟨fun σ' H' => C8 H12 H' /\ σ' = [sr sc, sr fq, si m, sr pq, sr w3, sr lq, si ct, sr c, si (0 + (i : Int)), si wy, sr dt, sr dl, sr fm], ?_, ?_⟩
   . refine ⟨_, rfl, _, rfl, Or.inl ⟨fm, _, _, _, _, rfl, num, fun z nz => ⟨_, rfl, C1m op.1.k.str op.1.s op.1.f op.1.p, C1m op.1.k.str op.1.s op.1.f op.1.p, rdD A7, rdD ((C8.upd nz) _ _ et), shD _ _ _ (okK _), shD _ _ _ (okK _), _, rfl, ?_⟩⟩⟩
     rw [if_pos rfl, eqD]
     have uz := C8.upd (o := .tup op.1.vs) nz
     refine V3 ⟨_, rfl, c, dx, _, rfl, uz _ _ ec, G2e _ _ _ _ _ _, c, v.r, v.y, v.l, v.m, a, b, _, _, rfl, hc12.same uz, fun l2 n2 => ⟨_, rfl, rdS (Z1 op.2), rdS (Z1 op.2), Y7j A7, Y7j ((uz.trans (C8.upd n2)) _ _ el), shS (Y7r _), shS (Y7r _), _, rfl, ?_⟩⟩
     rw [if_pos rfl, eqSs]
     exact V3 ⟨uz.trans (C8.upd n2), rfl⟩
   rintro σ' H13 ⟨s13, rfl⟩
   have b13 := b12.same s13
   have hc13 := hc12.same s13
   obtain ⟨dx, ec⟩ := hc13.ins
   refine ⟨_, ?_, fun _ _ h => h⟩
   exact ⟨_, rfl, c, dx, _, rfl, ec, G1n _ _ _ _ _ _, c, v.r, v.y, v.l, v.m, a, b, _, _, rfl, hc13, fun a' H' x' na ct' => ⟨a', _, _, _, _, _, b13.exc x' ec nc1 nc2 nc3, ct', rfl⟩⟩
 clear b8 hc8
 rintro σ' H14 ⟨v8, v9, v10, v11, v12, b14, rfl⟩
 refine ⟨_, rfl, lq, rfl, ⟨_, SqL.of b14.el⟩, B5j (J := Itl K lq) (n := 3) (fun i y H' => ∃ t, y = .ref t /\ H' t = some (.tup (Y7b x1 x2 x3 i).vs)) (by decide) (fun i y H1 H2 D l h hD e => ?_) (fun i H3 Qy hi sm hy => ⟨⟨_, _, SqL.of (sm _ _ b14.el), at3' hi⟩, fun x H4 yl => ?_⟩) (fun H3 sm => ⟨_, SqL.of (sm _ _ b14.el), Nat.le_refl _⟩) (fun D H' ys sm nD eD hlen hR => ?_)⟩
 . obtain ⟨t, rfl, hn⟩ := h
   exact ⟨t, rfl, e _ _ hn (A6y hn hD (by intro z; cases z))⟩
 . obtain ⟨rfl, yl⟩ := yl
   have ex := (get3 (yl _ (SqL.of (sm _ _ b14.el)))).2
   subst ex
   rcases (by omega : i = 0 \/ i = 1 \/ i = 2) with rfl | rfl | rfl
   . exact ⟨_, rfl, _, rfl, .inl ⟨n1, _, _, _, _, rfl, b14.m1.same sm, fun t nt => hy _ _ (C8.upd nt) ⟨t, rfl, A7⟩⟩⟩
   . exact ⟨_, rfl, _, rfl, .inl ⟨n2, _, _, _, _, rfl, b14.m2.same sm, fun t nt => hy _ _ (C8.upd nt) ⟨t, rfl, A7⟩⟩⟩
   . exact ⟨_, rfl, _, rfl, .inl ⟨n3, _, _, _, _, rfl, b14.m3.same sm, fun t nt => hy _ _ (C8.upd nt) ⟨t, rfl, A7⟩⟩⟩
 obtain ⟨y1, y2, y3, rfl⟩ := Y5e hlen
 obtain ⟨t1', rfl, g1⟩ := hR 0 _ rfl
 obtain ⟨t2', rfl, g2⟩ := hR 1 _ rfl
 obtain ⟨t3', rfl, g3⟩ := hR 2 _ rfl
 have b15 := b14.same sm
 clear hR
 refine ⟨_, rfl, pq, rfl, ⟨_, SqL.of b15.ep⟩, B5j (J := Itl K pq) (n := 3) (fun i y H' => ∃ t, y = .ref t /\ H' t = some (.tup (Y7b x1 x2 x3 i).vs)) (by decide) (fun i y H1 H2 D l h hD e => ?_) (fun i H3 Qy hi sm hy => ⟨⟨_, _, SqL.of (sm _ _ b15.ep), at3' hi⟩, fun x H4 yl => ?_⟩) (fun H3 sm => ⟨_, SqL.of (sm _ _ b15.ep), Nat.le_refl _⟩) (fun D2 H2 ys sm2 nD2 eD2 hlen2 hR => ?_)⟩
 . obtain ⟨t, rfl, hn⟩ := h
   exact ⟨t, rfl, e _ _ hn (A6y hn hD (by intro z; cases z))⟩
 . obtain ⟨rfl, yl⟩ := yl
   have ex := (get3 (yl _ (SqL.of (sm _ _ b15.ep)))).2
   subst ex
   rcases (by omega : i = 0 \/ i = 1 \/ i = 2) with rfl | rfl | rfl
   . have e := sm _ _ b15.a1.e
     exact ⟨_, rfl, q1, _, _, _, rfl, rfl, SqT.of e, B7 (j := 0) rfl, _, rfl, q1, _, _, _, rfl, rfl, SqT.of e, B7 (j := 1) rfl, _, rfl, q1, _, _, _, rfl, rfl, SqT.of e, B7 (j := 2) rfl, z4, fun t nt => hy _ _ (C8.upd nt) ⟨t, rfl, by show upd H4 t _ t = some (.tup x1.vs); unfold Nm.vs; rw [k1]; exact A7⟩⟩
   . have e := sm _ _ b15.a2.e
     exact ⟨_, rfl, q2, _, _, _, rfl, rfl, SqT.of e, B7 (j := 0) rfl, _, rfl, q2, _, _, _, rfl, rfl, SqT.of e, B7 (j := 1) rfl, _, rfl, q2, _, _, _, rfl, rfl, SqT.of e, B7 (j := 2) rfl, z4, fun t nt => hy _ _ (C8.upd nt) ⟨t, rfl, by show upd H4 t _ t = some (.tup x2.vs); unfold Nm.vs; rw [k2]; exact A7⟩⟩
   . have e := sm _ _ b15.a3.e
     exact ⟨_, rfl, q3, _, _, _, rfl, rfl, SqT.of e, B7 (j := 0) rfl, _, rfl, q3, _, _, _, rfl, rfl, SqT.of e, B7 (j := 1) rfl, _, rfl, q3, _, _, _, rfl, rfl, SqT.of e, B7 (j := 2) rfl, z4, fun t nt => hy _ _ (C8.upd nt) ⟨t, rfl, by show upd H4 t _ t = some (.tup x3.vs); unfold Nm.vs; rw [k3]; exact A7⟩⟩
 obtain ⟨y1, y2, y3, rfl⟩ := Y5e hlen2
 obtain ⟨u1, rfl, e1⟩ := hR 0 _ rfl
 obtain ⟨u2, rfl, e2⟩ := hR 1 _ rfl
 obtain ⟨u3, rfl, e3⟩ := hR 2 _ rfl
 refine ⟨J4x x1 x2 x3, J4x x1 x2 x3, rd3 (sm2 _ _ eD) (sm2 _ _ g1) (sm2 _ _ g2) (sm2 _ _ g3), rd3 eD2 e1 e2 e3, sh3 _ _ _, sh3 _ _ _, ?_⟩
 rw [if_neg Bool.false_ne_true, eq3]
 exact kk _
end TR
namespace TR
open PySem L2 PySem.W PyProof.Rows
theorem all_mk {l : OpenLaw} {w : World} {K : Frag} {h : Heap} {mg : Str -> Option Value} {fa CW W0 A7m W1 A7n W2 A7d W3 A7g W4 A7e W5 A7k W6 A7h W7 A7f CN G0n A1h A2x A1m A2y A1e A2z A1j A3c A1k A2w A1g A3e A1p A3a A1n A3b CC G0g Y9w A5d A2v B3f A3d A5c CQ G0q Z9g A2f B6k CE C1 C2 C3 C4 CR fX aS RO G0k Z4f A2b B6b B2t J3v D3g J0e G6a J1n A0ds C2r V1q U9y G6n B8w G9c D0n C6f Z3q C5p G4t A7j D4x C6d B3q D2e D1r G6h G3t C4y C2s D3a U4c G7q C3d U9v B4v D2q U2y U6p B4g G7k C4x G7z G5h U4k J1v D3k U7k V1g G7x V0d U9b D0t U8n D4p D4b D2v Z0v J2z J2u D0s B9h C2w J0r D1p G3b C4s A9m J2c J0f C5f D1m V0z G6r G8n Z7p : Addr} (X : K.In h) (G : h.Ns mainGlobals mg) (hfa : mg "law" = some (.ref fa)) {J2k J1e : Option Addr} {G2u : Array (Option Value)} {G7c G9n G5e G4b C0u J3x : Value} (B2m : nsIn K mainGlobals "product_of" = some (some (.ref B2t))) (B5g : K.lookup B2t = some ⟨G7c, J2k, .func (fnOf "product_of" "product_of" (B9 A0d) (B8 A0d) (A2 A0d) .none G9n G5e G4b J1e C0u J3x), G2u⟩) (B3d : codeIn K C0u "product_of" = true) (B3m : keepIn K (.ref B2t) = true) {Y9m A0ez : Option Addr} {A0fc : Array (Option Value)} {Z2g Z0g Z1e A0cd J6t A0eu : Value} (G8u : nsIn K mainGlobals "ten_to" = some (some (.ref J3v))) (J1y : K.lookup J3v = some ⟨Z2g, Y9m, .func (fnOf "ten_to" "ten_to" (B9 A0q) (B8 A0q) (A2 A0q) .none Z0g Z1e A0cd A0ez J6t A0eu), A0fc⟩) (J2e : codeIn K J6t "ten_to" = true) (J0v : keepIn K (.ref J3v) = true) {Y3f Y2z : Option Addr} {Y3b : Array (Option Value)} {Y2t Y3x Y1r Y0m G0j Y1u : Value} (D0x : nsIn K mainGlobals "part_of" = some (some (.ref D3g))) (D0y : K.lookup D3g = some ⟨Y2t, Y3f, .func (fnOf "part_of" "part_of" (B9 A5p) (B8 A5p) (A2 A5p) .none Y3x Y1r Y0m Y2z G0j Y1u), Y3b⟩) (D4r : codeIn K G0j "part_of" = true) (D0r : keepIn K (.ref D3g) = true) {Y9p Z6h : Option Addr} {A0bx : Array (Option Value)} {Z9f Z6t Z3j Y8u J7z Z9c : Value} (G8t : nsIn K mainGlobals "whole_lead" = some (some (.ref J0e))) (G7m : K.lookup J0e = some ⟨Z9f, Y9p, .func (fnOf "whole_lead" "whole_lead" (B9 A6c) (B8 A6c) (A2 A6c) .none Z6t Z3j Y8u Z6h J7z Z9c), A0bx⟩) (J3j : codeIn K J7z "whole_lead" = true) (G3m : keepIn K (.ref J0e) = true) {A0cw Z3h : Option Addr} {Z6j : Array (Option Value)} {Z1g Z2p Z4a Z9v J7h A0dn : Value} (G5g : nsIn K mainGlobals "whole_root" = some (some (.ref G6a))) (J2x : K.lookup G6a = some ⟨Z1g, A0cw, .func (fnOf "whole_root" "whole_root" (B9 B1x) (B8 B1x) (A2 B1x) .none Z2p Z4a Z9v Z3h J7h A0dn), Z6j⟩) (J0u : codeIn K J7h "whole_root" = true) (G9v : keepIn K (.ref G6a) = true) {A0cn Z7y : Option Addr} {Z0k : Array (Option Value)} {Z7z Z3m A0bt Z7s J6a A0dx : Value} (G5k : nsIn K mainGlobals "plain" = some (some (.ref J1n))) (G6d : K.lookup J1n = some ⟨Z7z, A0cn, .func (fnOf "plain" "plain" (B9 B7h) (B8 B7h) (A2 B7h) .none Z3m A0bt Z7s Z7y J6a A0dx), Z0k⟩) (J2p : codeIn K J6a "plain" = true) (G9k : keepIn K (.ref J1n) = true) {A0ws A0up : Option Addr} {A0ug : Array (Option Value)} {A0uq A0wy A0wp A0um A0fs A0uw : Value} (A0dg : nsIn K mainGlobals "end" = some (some (.ref A0ds))) (Z2j : K.lookup A0ds = some ⟨A0uq, A0ws, .func (fnOf "end" "end" (B9 G1r) (B8 G1r) (A2 G1r) .none A0wy A0wp A0um A0up A0fs A0uw), A0ug⟩) (A0em : codeIn K A0fs "end" = true) (A0dv : keepIn K (.ref A0ds) = true) {U2k U6q : Option Addr} {U6z : Array (Option Value)} {V1z U1w U3x U3g D0q U2m : Value} (C6g : nsIn K mainGlobals "nothing" = some (some (.ref C2r))) (C3w : K.lookup C2r = some ⟨V1z, U2k, .func (fnOf "nothing" "nothing" (B9 Z0) (B8 Z0) (A2 Z0) .none U1w U3x U3g U6q D0q U2m), U6z⟩) (C4z : codeIn K D0q "nothing" = true) (C3p : keepIn K (.ref C2r) = true) {A0ng A0kg : Option Addr} {A0mj : Array (Option Value)} {A0kr A0qc A0qj A0nw V4z A0qp : Value} (U4d : nsIn K mainGlobals "told" = some (some (.ref V1q))) (U6h : K.lookup V1q = some ⟨A0kr, A0ng, .func (fnOf "told" "told" (B9 C9s) (B8 C9s) (A2 C9s) .none A0qc A0qj A0nw A0kg V4z A0qp), A0mj⟩) (U7d : codeIn K V4z "told" = true) (U3c : keepIn K (.ref V1q) = true) {A0mn A0pm : Option Addr} {A0km : Array (Option Value)} {A0mu A0kx A0kv A0mc V5k A0ku : Value} (V2b : nsIn K mainGlobals "lead_of" = some (some (.ref U9y))) (U4b : K.lookup U9y = some ⟨A0mu, A0mn, .func (fnOf "lead_of" "lead_of" (B9 C9y) (B8 C9y) (A2 C9y) .none A0kx A0kv A0mc A0pm V5k A0ku), A0km⟩) (V2a : codeIn K V5k "lead_of" = true) (U1v : keepIn K (.ref U9y) = true) {Z9s Z9a : Option Addr} {Y8z : Array (Option Value)} {Z1d A0ft A0fv A0ef J8w Z0d : Value} (J0c : nsIn K mainGlobals "need_number" = some (some (.ref G6n))) (J0q : K.lookup G6n = some ⟨Z1d, Z9s, .func (fnOf "need_number" "need_number" (B9 A4p) (B8 A4p) (A2 A4p) .none A0ft A0fv A0ef Z9a J8w Z0d), Y8z⟩) (G6u : codeIn K J8w "need_number" = true) (G3u : keepIn K (.ref G6n) = true) {J7n J7r : Option Addr} {J7d : Array (Option Value)} {J6r J8u J6q J8m C7b J7e : Value} (B8s : nsIn K mainGlobals "need_numbers" = some (some (.ref B8w))) (B9u : K.lookup B8w = some ⟨J6r, J7n, .func (fnOf "need_numbers" "need_numbers" (B9 A3q) (B8 A3q) (A2 A3q) .none J8u J6q J8m J7r C7b J7e), J7d⟩) (B8y : codeIn K C7b "need_numbers" = true) (B8u : keepIn K (.ref B8w) = true) {A0cf A0fh : Option Addr} {A0az : Array (Option Value)} {Z0n Z4b Z9b Z9m J8x A0bz : Value} (G4v : nsIn K mainGlobals "some_of_kind" = some (some (.ref G9c))) (G9d : K.lookup G9c = some ⟨Z0n, A0cf, .func (fnOf "some_of_kind" "some_of_kind" (B9 A7q) (B8 A7q) (A2 A7q) .none Z4b Z9b Z9m A0fh J8x A0bz), A0az⟩) (G6s : codeIn K J8x "some_of_kind" = true) (G5u : keepIn K (.ref G9c) = true) {Y2k V8c : Option Addr} {V8x : Array (Option Value)} {V8m Y3t V9s Y3p G0x Y0d : Value} (D2z : nsIn K mainGlobals "unlike_sign" = some (some (.ref D0n))) (D4m : K.lookup D0n = some ⟨V8m, Y2k, .func (fnOf "unlike_sign" "unlike_sign" (B9 A3r) (B8 A3r) (A2 A3r) .none Y3t V9s Y3p V8c G0x Y0d), V8x⟩) (D3v : codeIn K G0x "unlike_sign" = true) (D2x : keepIn K (.ref D0n) = true) {V0t U2w : Option Addr} {V2f : Array (Option Value)} {U8s U4v U9q U3m D3s U9d : Value} (C5x : nsIn K mainGlobals "whole_at" = some (some (.ref C6f))) (C2z : K.lookup C6f = some ⟨U8s, V0t, .func (fnOf "whole_at" "whole_at" (B9 A2p) (B8 A2p) (A2 A2p) .none U4v U9q U3m U2w D3s U9d), V2f⟩) (C4c : codeIn K D3s "whole_at" = true) (C2v : keepIn K (.ref C6f) = true) {A0vp A0wg : Option Addr} {A0wq : Array (Option Value)} {A0vq A0vf A0we A0uc A0bf A0wr : Value} (Y9c : nsIn K mainGlobals "is_between" = some (some (.ref Z3q))) (A0ej : K.lookup Z3q = some ⟨A0vq, A0vp, .func (fnOf "is_between" "is_between" (B9 C8e) (B8 C8e) (A2 C8e) .none A0vf A0we A0uc A0wg A0bf A0wr), A0wq⟩) (Z6y : codeIn K A0bf "is_between" = true) (Z2w : keepIn K (.ref Z3q) = true) {V1p U4t : Option Addr} {U3b : Array (Option Value)} {U3j U4x U7j U2s D3u U2j : Value} (C4a : nsIn K mainGlobals "need_between" = some (some (.ref C5p))) (C3j : K.lookup C5p = some ⟨U3j, V1p, .func (fnOf "need_between" "need_between" (B9 A2s) (B8 A2s) (A2 A2s) .none U4x U7j U2s U4t D3u U2j), U3b⟩) (C5v : codeIn K D3u "need_between" = true) (C5s : keepIn K (.ref C5p) = true) {Z1a Z0z : Option Addr} {Y9e : Array (Option Value)} {Z8g A0ew Z0r Z2k J6f Z0b : Value} (G4q : nsIn K mainGlobals "need_count" = some (some (.ref G4t))) (J0p : K.lookup G4t = some ⟨Z8g, Z1a, .func (fnOf "need_count" "need_count" (B9 B7z) (B8 B7z) (A2 B7z) .none A0ew Z0r Z2k Z0z J6f Z0b), Y9e⟩) (G4k : codeIn K J6f "need_count" = true) (G8d : keepIn K (.ref G4t) = true) {V0w U4e : Option Addr} {V0a : Array (Option Value)} {U8y U4s U8v U7y D3c U7h : Value} (C3u : nsIn K mainGlobals "settled" = some (some (.ref A7j))) (C6e : K.lookup A7j = some ⟨U8y, V0w, .func (fnOf "settled" "settled" (B9 A0b) (B8 A0b) (A2 A0b) .none U4s U8v U7y U4e D3c U7h), V0a⟩) (C5d : codeIn K D3c "settled" = true) (C3q : keepIn K (.ref A7j) = true) {Y3s V8h : Option Addr} {V8u : Array (Option Value)} {V8f Y2v Y2f Y1a G0u Y0q : Value} (D2r : nsIn K mainGlobals "finest_power" = some (some (.ref D4x))) (D2a : K.lookup D4x = some ⟨V8f, Y3s, .func (fnOf "finest_power" "finest_power" (B9 A5j) (B8 A5j) (A2 A5j) .none Y2v Y2f Y1a V8h G0u Y0q), V8u⟩) (D3x : codeIn K G0u "finest_power" = true) (D4v : keepIn K (.ref D4x) = true) {U5s V2k : Option Addr} {V2j : Array (Option Value)} {U7f U8c U5h U6c D1v U4r : Value} (C5z : nsIn K mainGlobals "nearest_to" = some (some (.ref C6d))) (C4t : K.lookup C6d = some ⟨U7f, U5s, .func (fnOf "nearest_to" "nearest_to" (B9 A2r) (B8 A2r) (A2 A2r) .none U8c U5h U6c V2k D1v U4r), V2j⟩) (C5c : codeIn K D1v "nearest_to" = true) (C4g : keepIn K (.ref C6d) = true) {J3k G7d : Option Addr} {J2q : Array (Option Value)} {G6v G5a G6z G2v C0x G6f : Value} (B3c : nsIn K mainGlobals "neighbour" = some (some (.ref B3q))) (B3b : K.lookup B3q = some ⟨G6v, J3k, .func (fnOf "neighbour" "neighbour" (B9 Z7) (B8 Z7) (A2 Z7) .none G5a G6z G2v G7d C0x G6f), J2q⟩) (B4b : codeIn K C0x "neighbour" = true) (B3y : keepIn K (.ref B3q) = true) {V9y V9x : Option Addr} {Y0y : Array (Option Value)} {Y1y Y3n Y2p Y1k G0e V8y : Value} (D1d : nsIn K mainGlobals "within_room" = some (some (.ref D2e))) (D3m : K.lookup D2e = some ⟨Y1y, V9y, .func (fnOf "within_room" "within_room" (B9 A5m) (B8 A5m) (A2 A5m) .none Y3n Y2p Y1k V9x G0e V8y), Y0y⟩) (D1h : codeIn K G0e "within_room" = true) (D1a : keepIn K (.ref D2e) = true) {Y1x Y1n : Option Addr} {Y0r : Array (Option Value)} {Y1q Y3m V8t Y0b G0r V9k : Value} (D4d : nsIn K mainGlobals "is_beyond" = some (some (.ref D1r))) (D2j : K.lookup D1r = some ⟨Y1q, Y1x, .func (fnOf "is_beyond" "is_beyond" (B9 A5n) (B8 A5n) (A2 A5n) .none Y3m V8t Y0b Y1n G0r V9k), Y0r⟩) (D4t : codeIn K G0r "is_beyond" = true) (D3t : keepIn K (.ref D1r) = true) {Z5p A0br : Option Addr} {Z1z : Array (Option Value)} {Z6u Z3s Z7d A0de J5t A0cj : Value} (G2z : nsIn K mainGlobals "burst" = some (some (.ref G6h))) (G6t : K.lookup G6h = some ⟨Z6u, Z5p, .func (fnOf "burst" "burst" (B9 B1p) (B8 B1p) (A2 B1p) .none Z3s Z7d A0de A0br J5t A0cj), Z1z⟩) (J1t : codeIn K J5t "burst" = true) (J0t : keepIn K (.ref G6h) = true) {Z0u Z7h : Option Addr} {Z1m : Array (Option Value)} {A0dp Y9b Z6z Z2n J9t Y9a : Value} (G4d : nsIn K mainGlobals "nines" = some (some (.ref G3t))) (G6w : K.lookup G3t = some ⟨A0dp, Z0u, .func (fnOf "nines" "nines" (B9 B1q) (B8 B1q) (A2 B1q) .none Y9b Z6z Z2n Z7h J9t Y9a), Z1m⟩) (G9w : codeIn K J9t "nines" = true) (J3t : keepIn K (.ref G3t) = true) {U2g U2x : Option Addr} {V1r : Array (Option Value)} {U7m U2z U8j U5q D1k U7r : Value} (C3b : nsIn K mainGlobals "signals_of_rest" = some (some (.ref C4y))) (C3v : K.lookup C4y = some ⟨U7m, U2g, .func (fnOf "signals_of_rest" "signals_of_rest" (B9 A4v) (B8 A4v) (A2 A4v) .none U2z U8j U5q U2x D1k U7r), V1r⟩) (C5e : codeIn K D1k "signals_of_rest" = true) (C6b : keepIn K (.ref C4y) = true) {U2p U9p : Option Addr} {U6t : Array (Option Value)} {V1c U6s U8a U7u D0u U6n : Value} (C4q : nsIn K mainGlobals "signals_of_lead" = some (some (.ref C2s))) (C2a : K.lookup C2s = some ⟨V1c, U2p, .func (fnOf "signals_of_lead" "signals_of_lead" (B9 A4z) (B8 A4z) (A2 A4z) .none U6s U8a U7u U9p D0u U6n), U6t⟩) (C6h : codeIn K D0u "signals_of_lead" = true) (C2y : keepIn K (.ref C2s) = true) {V8v V8k : Option Addr} {Y2j : Array (Option Value)} {Y0z V9q Y1f V9a G1a V9v : Value} (D2t : nsIn K mainGlobals "nought" = some (some (.ref D3a))) (D4a : K.lookup D3a = some ⟨Y0z, V8v, .func (fnOf "nought" "nought" (B9 A0j) (B8 A0j) (A2 A0j) .none V9q Y1f V9a V8k G1a V9v), Y2j⟩) (D1z : codeIn K G1a "nought" = true) (D0k : keepIn K (.ref D3a) = true) {A0nd A0kf : Option Addr} {A0md : Array (Option Value)} {A0mk A0ps A0kh A0mp V5f A0nb : Value} (U6w : nsIn K mainGlobals "void" = some (some (.ref U4c))) (U5m : K.lookup U4c = some ⟨A0mk, A0nd, .func (fnOf "void" "void" (B9 B1m) (B8 B1m) (A2 B1m) .none A0ps A0kh A0mp A0kf V5f A0nb), A0md⟩) (U5a : codeIn K V5f "void" = true) (U8x : keepIn K (.ref U4c) = true) {Z0t Z7c : Option Addr} {Z5g : Array (Option Value)} {Y9t A0bb Z9e Z6a J7v Z8c : Value} (J3d : nsIn K mainGlobals "split_to_end" = some (some (.ref G7q))) (G5z : K.lookup G7q = some ⟨Y9t, Z0t, .func (fnOf "split_to_end" "split_to_end" (B9 B0z) (B8 B0z) (A2 B0z) .none A0bb Z9e Z6a Z7c J7v Z8c), Z5g⟩) (J2g : codeIn K J7v "split_to_end" = true) (G4p : keepIn K (.ref G7q) = true) {V0e V1s : Option Addr} {U5d : Array (Option Value)} {U8r U8q V0r U4u D4y U8g : Value} (C3n : nsIn K mainGlobals "rounded" = some (some (.ref C3d))) (C4u : K.lookup C3d = some ⟨U8r, V0e, .func (fnOf "rounded" "rounded" (B9 A4q) (B8 A4q) (A2 A4q) .none U8q V0r U4u V1s D4y U8g), U5d⟩) (C4e : codeIn K D4y "rounded" = true) (C4h : keepIn K (.ref C3d) = true) {A0pf A0mg : Option Addr} {A0kj : Array (Option Value)} {A0na A0ns A0qm A0np V5b A0kz : Value} (V0j : nsIn K mainGlobals "over" = some (some (.ref U9v))) (U6m : K.lookup U9v = some ⟨A0na, A0pf, .func (fnOf "over" "over" (B9 C9v) (B8 C9v) (A2 C9v) .none A0ns A0qm A0np A0mg V5b A0kz), A0kj⟩) (U5c : codeIn K V5b "over" = true) (U3s : keepIn K (.ref U9v) = true) {J3p J2b : Option Addr} {G5d : Array (Option Value)} {J3q G4n G9h G8s C1d G8v : Value} (B5f : nsIn K mainGlobals "whole_over" = some (some (.ref B4v))) (B2c : K.lookup B4v = some ⟨J3q, J3p, .func (fnOf "whole_over" "whole_over" (B9 A0t) (B8 A0t) (A2 A0t) .none G4n G9h G8s J2b C1d G8v), G5d⟩) (B4j : codeIn K C1d "whole_over" = true) (B3a : keepIn K (.ref B4v) = true) {Y3u V8r : Option Addr} {Y0a : Array (Option Value)} {Y3h Y0v Y1w V9b G0d Y2w : Value} (D3h : nsIn K mainGlobals "rest_of" = some (some (.ref D2q))) (D2h : K.lookup D2q = some ⟨Y3h, Y3u, .func (fnOf "rest_of" "rest_of" (B9 A7x) (B8 A7x) (A2 A7x) .none Y0v Y1w V9b V8r G0d Y2w), Y0a⟩) (D4u : codeIn K G0d "rest_of" = true) (D1j : keepIn K (.ref D2q) = true) {A0kp A0me : Option Addr} {A0jz : Array (Option Value)} {A0nu A0pd A0px A0ka V5e A0mr : Value} (U9j : nsIn K mainGlobals "has_plain_quotient" = some (some (.ref U2y))) (U3d : K.lookup U2y = some ⟨A0nu, A0kp, .func (fnOf "has_plain_quotient" "has_plain_quotient" (B9 C6p) (B8 C6p) (A2 C6p) .none A0pd A0px A0ka A0me V5e A0mr), A0jz⟩) (U9f : codeIn K V5e "has_plain_quotient" = true) (U3q : keepIn K (.ref U2y) = true) {A0qg A0pg : Option Addr} {A0ky : Array (Option Value)} {A0pz A0kd A0nr A0ph V4w A0pb : Value} (V1m : nsIn K mainGlobals "odd_quotient" = some (some (.ref U6p))) (U3a : K.lookup U6p = some ⟨A0pz, A0qg, .func (fnOf "odd_quotient" "odd_quotient" (B9 C6m) (B8 C6m) (A2 C6m) .none A0kd A0nr A0ph A0pg V4w A0pb), A0ky⟩) (U9k : codeIn K V4w "odd_quotient" = true) (V1k : keepIn K (.ref U6p) = true) {G2t G8x : Option Addr} {J3e : Array (Option Value)} {G7s G8z G7n G8p C1e J0n : Value} (B3v : nsIn K mainGlobals "whole_part" = some (some (.ref B4g))) (B2w : K.lookup B4g = some ⟨G7s, G2t, .func (fnOf "whole_part" "whole_part" (B9 Z8) (B8 Z8) (A2 Z8) .none G8z G7n G8p G8x C1e J0n), J3e⟩) (B4a : codeIn K C1e "whole_part" = true) (B3w : keepIn K (.ref B4g) = true) {Y8n A0ee : Option Addr} {A0dm : Array (Option Value)} {Y8t A0ch A0cy Z0h J6n A0fj : Value} (J2f : nsIn K mainGlobals "way_of" = some (some (.ref G7k))) (J3u : K.lookup G7k = some ⟨Y8t, Y8n, .func (fnOf "way_of" "way_of" (B9 B1w) (B8 B1w) (A2 B1w) .none A0ch A0cy Z0h A0ee J6n A0fj), A0dm⟩) (G9a : codeIn K J6n "way_of" = true) (G6p : keepIn K (.ref G7k) = true) {U8f V1n : Option Addr} {U4f : Array (Option Value)} {U5k U2d U6k V2d D1u U7b : Value} (C5j : nsIn K mainGlobals "bounded" = some (some (.ref C4x))) (C4f : K.lookup C4x = some ⟨U5k, U8f, .func (fnOf "bounded" "bounded" (B9 A4x) (B8 A4x) (A2 A4x) .none U2d U6k V2d V1n D1u U7b), U4f⟩) (C2n : codeIn K D1u "bounded" = true) (C3f : keepIn K (.ref C4x) = true) {A0eg Z7n : Option Addr} {Y8x : Array (Option Value)} {Z8u Z2v A0ah Z5m J8h A0ay : Value} (J0h : nsIn K mainGlobals "need_signals" = some (some (.ref G7z))) (J2v : K.lookup G7z = some ⟨Z8u, A0eg, .func (fnOf "need_signals" "need_signals" (B9 B7m) (B8 B7m) (A2 B7m) .none Z2v A0ah Z5m Z7n J8h A0ay), Y8x⟩) (J1g : codeIn K J8h "need_signals" = true) (J2w : keepIn K (.ref G7z) = true) {Z7b A0cm : Option Addr} {Z7r : Array (Option Value)} {Z2r A0cu Z4u Z8s J8e Z0x : Value} (G7r : nsIn K mainGlobals "in_order" = some (some (.ref G5h))) (J1f : K.lookup G5h = some ⟨Z2r, Z7b, .func (fnOf "in_order" "in_order" (B9 B7f) (B8 B7f) (A2 B7f) .none A0cu Z4u Z8s A0cm J8e Z0x), Z7r⟩) (G5r : codeIn K J8e "in_order" = true) (G4j : keepIn K (.ref G5h) = true) {A0mf A0nc : Option Addr} {A0qk : Array (Option Value)} {A0mw A0nt A0qf A0nf V5c A0pu : Value} (U6d : nsIn K mainGlobals "root" = some (some (.ref U4k))) (U4a : K.lookup U4k = some ⟨A0mw, A0mf, .func (fnOf "root" "root" (B9 C9u) (B8 C9u) (A2 C9u) .none A0nt A0qf A0nf A0nc V5c A0pu), A0qk⟩) (U3t : codeIn K V5c "root" = true) (U4q : keepIn K (.ref U4k) = true) {A0ey Z5s : Option Addr} {Z4k : Array (Option Value)} {Z1q A0fk Z2d Z3n J9h Z8a : Value} (G4s : nsIn K mainGlobals "to_power" = some (some (.ref J1v))) (G8f : K.lookup J1v = some ⟨Z1q, A0ey, .func (fnOf "to_power" "to_power" (B9 B7q) (B8 B7q) (A2 B7q) .none A0fk Z2d Z3n Z5s J9h Z8a), Z4k⟩) (J0s : codeIn K J9h "to_power" = true) (J2m : keepIn K (.ref J1v) = true) {Y3j Y2g : Option Addr} {Y2x : Array (Option Value)} {Y1p Y1m Y1b Y2d G0p Y2h : Value} (D4q : nsIn K mainGlobals "power_of_end" = some (some (.ref D3k))) (D2b : K.lookup D3k = some ⟨Y1p, Y3j, .func (fnOf "power_of_end" "power_of_end" (B9 C7q) (B8 C7q) (A2 C7q) .none Y1m Y1b Y2d Y2g G0p Y2h), Y2x⟩) (D3b : codeIn K G0p "power_of_end" = true) (D2g : keepIn K (.ref D3k) = true) {A0mq A0jy : Option Addr} {A0pe : Array (Option Value)} {A0kt A0nj A0qh A0ne V5q A0nx : Value} (U1y : nsIn K mainGlobals "power_of_nought" = some (some (.ref U7k))) (U8m : K.lookup U7k = some ⟨A0kt, A0mq, .func (fnOf "power_of_nought" "power_of_nought" (B9 A0v) (B8 A0v) (A2 A0v) .none A0nj A0qh A0ne A0jy V5q A0nx), A0pe⟩) (V1e : codeIn K V5q "power_of_nought" = true) (V0m : keepIn K (.ref U7k) = true) {A0mz A0mv : Option Addr} {A0kw : Array (Option Value)} {A0qd A0pv A0kq A0pn V4v A0qb : Value} (U1x : nsIn K mainGlobals "_law_cell_at" = some (some (.ref V1g))) (V2g : K.lookup V1g = some ⟨A0qd, A0mz, .func (fnOf "_law_cell_at" "_law_cell_at" (B9 C9j) (B8 C9j) (A2 C9j) .none A0pv A0kq A0pn A0mv V4v A0qb), A0kw⟩) (U2c : codeIn K V4v "_law_cell_at" = true) (U2q : keepIn K (.ref V1g) = true) {Z3u Z3c : Option Addr} {Z5r : Array (Option Value)} {Z4m Z6b Z5c A0fq J5u Z7j : Value} (G3a : nsIn K mainGlobals "_law_mixed" = some (some (.ref G7x))) (G3e : K.lookup G7x = some ⟨Z4m, Z3u, .func (fnOf "_law_mixed" "_law_mixed" (B9 A7r) (B8 A7r) (A2 A7r) .none Z6b Z5c A0fq Z3c J5u Z7j), Z5r⟩) (J3f : codeIn K J5u "_law_mixed" = true) (J1h : keepIn K (.ref G7x) = true) {A0pk A0nz : Option Addr} {A0mh : Array (Option Value)} {A0pj A0pp A0pq A0ms V4q A0kc : Value} (U8u : nsIn K mainGlobals "_law_ten" = some (some (.ref V0d))) (V2c : K.lookup V0d = some ⟨A0pj, A0pk, .func (fnOf "_law_ten" "_law_ten" (B9 B0y) (B8 B0y) (A2 B0y) .none A0pp A0pq A0ms A0nz V4q A0kc), A0mh⟩) (U9w : codeIn K V4q "_law_ten" = true) (U6v : keepIn K (.ref V0d) = true) {A0qe A0nq : Option Addr} {A0ks : Array (Option Value)} {A0my A0pw A0nm A0nn V5g A0nv : Value} (V0u : nsIn K mainGlobals "_law_figures" = some (some (.ref U9b))) (U7z : K.lookup U9b = some ⟨A0my, A0qe, .func (fnOf "_law_figures" "_law_figures" (B9 C9e) (B8 C9e) (A2 C9e) .none A0pw A0nm A0nn A0nq V5g A0nv), A0ks⟩) (V0c : codeIn K V5g "_law_figures" = true) (V0y : keepIn K (.ref U9b) = true) {Y3a Y0n : Option Addr} {Y0f : Array (Option Value)} {V9z V9t V9j Y0p G0w Y3w : Value} (D4f : nsIn K mainGlobals "_law_frame" = some (some (.ref D0t))) (D3n : K.lookup D0t = some ⟨V9z, Y3a, .func (fnOf "_law_frame" "_law_frame" (B9 A8d) (B8 A8d) (A2 A8d) .none V9t V9j Y0p Y0n G0w Y3w), Y0f⟩) (D2f : codeIn K G0w "_law_frame" = true) (D3w : keepIn K (.ref D0t) = true) {A0pa A0pt : Option Addr} {A0mt : Array (Option Value)} {A0qa A0mb A0py A0kb V4s A0mx : Value} (U2n : nsIn K mainGlobals "_law_context" = some (some (.ref U8n))) (U6e : K.lookup U8n = some ⟨A0qa, A0pa, .func (fnOf "_law_context" "_law_context" (B9 C8f) (B8 C8f) (A2 C8f) .none A0mb A0py A0kb A0pt V4s A0mx), A0mt⟩) (U9e : codeIn K V4s "_law_context" = true) (V1d : keepIn K (.ref U8n) = true) {Y3d V9d : Option Addr} {Y0k : Array (Option Value)} {V9f Y2m Y1v Y1d G0y V8z : Value} (D4n : nsIn K mainGlobals "_law_plain" = some (some (.ref D4p))) (D0m : K.lookup D4p = some ⟨V9f, Y3d, .func (fnOf "_law_plain" "_law_plain" (B9 A7z) (B8 A7z) (A2 A7z) .none Y2m Y1v Y1d V9d G0y V8z), Y0k⟩) (D4k : codeIn K G0y "_law_plain" = true) (D0p : keepIn K (.ref D4p) = true) {Y2y Y1t : Option Addr} {Y2n : Array (Option Value)} {V9m Y1c V9w Y3y G0m V9p : Value} (D3p : nsIn K mainGlobals "_law_count" = some (some (.ref D4b))) (D1q : K.lookup D4b = some ⟨V9m, Y2y, .func (fnOf "_law_count" "_law_count" (B9 A2j) (B8 A2j) (A2 A2j) .none Y1c V9w Y3y Y1t G0m V9p), Y2n⟩) (D4h : codeIn K G0m "_law_count" = true) (D4c : keepIn K (.ref D4b) = true) {V9c Y0s : Option Addr} {Y2b : Array (Option Value)} {Y2r Y0g Y3g Y1e G0c Y3k : Value} (D2p : nsIn K mainGlobals "_law_isqrt" = some (some (.ref D2v))) (D1y : K.lookup D2v = some ⟨Y2r, V9c, .func (fnOf "_law_isqrt" "_law_isqrt" (B9 A7s) (B8 A7s) (A2 A7s) .none Y0g Y3g Y1e Y0s G0c Y3k), Y2b⟩) (D1g : codeIn K G0c "_law_isqrt" = true) (D0v : keepIn K (.ref D2v) = true) {A0uh A0wt : Option Addr} {A0wc : Array (Option Value)} {A0un A0ur A0wu A0uf A0db A0uk : Value} (Y9j : nsIn K mainGlobals "_law_at" = some (some (.ref Z0v))) (Z4d : K.lookup Z0v = some ⟨A0un, A0uh, .func (fnOf "_law_at" "_law_at" (B9 J3z) (B8 J3z) (A2 J3z) .none A0ur A0wu A0uf A0wt A0db A0uk), A0wc⟩) (Z4c : codeIn K A0db "_law_at" = true) (Z1w : keepIn K (.ref Z0v) = true) {A0fb Z7w : Option Addr} {A0ba : Array (Option Value)} {A0au Z1y Z0y Z5v J8c Z2y : Value} (G6b : nsIn K mainGlobals "_law_lead" = some (some (.ref J2z))) (J0m : K.lookup J2z = some ⟨A0au, A0fb, .func (fnOf "_law_lead" "_law_lead" (B9 B7v) (B8 B7v) (A2 B7v) .none Z1y Z0y Z5v Z7w J8c Z2y), A0ba⟩) (J1a : codeIn K J8c "_law_lead" = true) (G8w : keepIn K (.ref J2z) = true) {Z6k Z7a : Option Addr} {Z5f : Array (Option Value)} {Z0p Z2u Y9y A0cq J5s A0et : Value} (J1j : nsIn K mainGlobals "_law_goes_up" = some (some (.ref J2u))) (G5n : K.lookup J2u = some ⟨Z0p, Z6k, .func (fnOf "_law_goes_up" "_law_goes_up" (B9 B7x) (B8 B7x) (A2 B7x) .none Z2u Y9y A0cq Z7a J5s A0et), Z5f⟩) (G3j : codeIn K J5s "_law_goes_up" = true) (G3x : keepIn K (.ref J2u) = true) {V9r V9n : Option Addr} {Y2a : Array (Option Value)} {Y2c V8q Y1j V8s G0t Y3q : Value} (D3j : nsIn K mainGlobals "_law_burst" = some (some (.ref D0s))) (D3q : K.lookup D0s = some ⟨Y2c, V9r, .func (fnOf "_law_burst" "_law_burst" (B9 A8a) (B8 A8a) (A2 A8a) .none V8q Y1j V8s V9n G0t Y3q), Y2a⟩) (D1n : codeIn K G0t "_law_burst" = true) (D1e : keepIn K (.ref D0s) = true) {J9d J9k : Option Addr} {J8f : Array (Option Value)} {J6w J7c J6u J6v C6y J6c : Value} (B9k : nsIn K mainGlobals "_law_settled" = some (some (.ref B9h))) (B9c : K.lookup B9h = some ⟨J6w, J9d, .func (fnOf "_law_settled" "_law_settled" (B9 Y7) (B8 Y7) (A2 Y7) .none J7c J6u J6v J9k C6y J6c), J8f⟩) (B9n : codeIn K C6y "_law_settled" = true) (B9e : keepIn K (.ref B9h) = true) {U7q U9r : Option Addr} {U7v : Array (Option Value)} {U5e U5f U4g U7p D2c U7c : Value} (C5b : nsIn K mainGlobals "_law_nought" = some (some (.ref C2w))) (C3a : K.lookup C2w = some ⟨U5e, U7q, .func (fnOf "_law_nought" "_law_nought" (B9 A0f) (B8 A0f) (A2 A0f) .none U5f U4g U7p U9r D2c U7c), U7v⟩) (C2p : codeIn K D2c "_law_nought" = true) (C5y : keepIn K (.ref C2w) = true) {Y9z Z8m : Option Addr} {Z8e : Array (Option Value)} {A0cr A0bp Z3w Y9q J9r Z1f : Value} (G8a : nsIn K mainGlobals "_law_void" = some (some (.ref J0r))) (J0b : K.lookup J0r = some ⟨A0cr, Y9z, .func (fnOf "_law_void" "_law_void" (B9 A4h) (B8 A4h) (A2 A4h) .none A0bp Z3w Y9q Z8m J9r Z1f), Z8e⟩) (J1b : codeIn K J9r "_law_void" = true) (G3c : keepIn K (.ref J0r) = true) {V8p Y1s : Option Addr} {Y0x : Array (Option Value)} {Y3c V9u Y1z Y2e G0h Y4a : Value} (D3y : nsIn K mainGlobals "_law_split" = some (some (.ref D1p))) (D1b : K.lookup D1p = some ⟨Y3c, V8p, .func (fnOf "_law_split" "_law_split" (B9 A5k) (B8 A5k) (A2 A5k) .none V9u Y1z Y2e Y1s G0h Y4a), Y0x⟩) (D0w : codeIn K G0h "_law_split" = true) (D1s : keepIn K (.ref D1p) = true) {Z6r Z3p : Option Addr} {Z4j : Array (Option Value)} {Y9d Z8y Z9u A0by J7j Z4h : Value} (J0z : nsIn K mainGlobals "_law_over" = some (some (.ref G3b))) (G5x : K.lookup G3b = some ⟨Y9d, Z6r, .func (fnOf "_law_over" "_law_over" (B9 B1r) (B8 B1r) (A2 B1r) .none Z8y Z9u A0by Z3p J7j Z4h), Z4j⟩) (G6y : codeIn K J7j "_law_over" = true) (G3y : keepIn K (.ref G3b) = true) {V0f U8h : Option Addr} {U7w : Array (Option Value)} {U7a U9m V0p U4y D0z U3z : Value} (C4r : nsIn K mainGlobals "_law_parted" = some (some (.ref C4s))) (C3c : K.lookup C4s = some ⟨U7a, V0f, .func (fnOf "_law_parted" "_law_parted" (B9 A2t) (B8 A2t) (A2 A2t) .none U9m V0p U4y U8h D0z U3z), U7w⟩) (C2m : codeIn K D0z "_law_parted" = true) (C2b : keepIn K (.ref C4s) = true) {D7z D6w : Option Addr} {D5y : Array (Option Value)} {D6s D8s D6n D5s B6y D7f : Value} (B0c : nsIn K mainGlobals "_law_whole_over" = some (some (.ref A9m))) (A9w : K.lookup A9m = some ⟨D6s, D7z, .func (fnOf "_law_whole_over" "_law_whole_over" (B9 A0c) (B8 A0c) (A2 A0c) .none D8s D6n D5s D6w B6y D7f), D5y⟩) (A9z : codeIn K B6y "_law_whole_over" = true) (B0r : keepIn K (.ref A9m) = true) {A0fm Z8n : Option Addr} {A0aj : Array (Option Value)} {Z7f Z1r A0ag Z0j J5w Z1p : Value} (G5j : nsIn K mainGlobals "_law_rest" = some (some (.ref J2c))) (G5y : K.lookup J2c = some ⟨Z7f, A0fm, .func (fnOf "_law_rest" "_law_rest" (B9 B7w) (B8 B7w) (A2 B7w) .none Z1r A0ag Z0j Z8n J5w Z1p), A0aj⟩) (G3h : codeIn K J5w "_law_rest" = true) (G4f : keepIn K (.ref J2c) = true) {Z1v Z1n : Option Addr} {Z2e : Array (Option Value)} {A0dq A0bh Z0a Z4q J7x Z7g : Value} (G4h : nsIn K mainGlobals "_law_root" = some (some (.ref J0f))) (J0a : K.lookup J0f = some ⟨A0dq, Z1v, .func (fnOf "_law_root" "_law_root" (B9 B7p) (B8 B7p) (A2 B7p) .none A0bh Z0a Z4q Z1n J7x Z7g), Z2e⟩) (J1q : codeIn K J7x "_law_root" = true) (G6x : keepIn K (.ref J0f) = true) {U6u V1j : Option Addr} {V0k : Array (Option Value)} {U4w U5g U6f V0x D1f V1u : Value} (C2q : nsIn K mainGlobals "_law_raised" = some (some (.ref C5f))) (C3r : K.lookup C5f = some ⟨U4w, U6u, .func (fnOf "_law_raised" "_law_raised" (B9 A4g) (B8 A4g) (A2 A4g) .none U5g U6f V0x V1j D1f V1u), V0k⟩) (C2h : codeIn K D1f "_law_raised" = true) (C3y : keepIn K (.ref C5f) = true) {Y1g V9g : Option Addr} {V8e : Array (Option Value)} {Y2s V9e Y0e Y1h G0s Y3e : Value} (D4j : nsIn K mainGlobals "_law_power" = some (some (.ref D1m))) (D3f : K.lookup D1m = some ⟨Y2s, Y1g, .func (fnOf "_law_power" "_law_power" (B9 A7v) (B8 A7v) (A2 A7v) .none V9e Y0e Y1h V9g G0s Y3e), V8e⟩) (D3d : codeIn K G0s "_law_power" = true) (D4g : keepIn K (.ref D1m) = true) {A0mm A0ma : Option Addr} {A0pr : Array (Option Value)} {A0nk A0kn A0kk A0pc V4t A0qn : Value} (U5t : nsIn K mainGlobals "_law_due" = some (some (.ref V0z))) (U4p : K.lookup V0z = some ⟨A0nk, A0mm, .func (fnOf "_law_due" "_law_due" (B9 C9t) (B8 C9t) (A2 C9t) .none A0kn A0kk A0pc A0ma V4t A0qn), A0pr⟩) (U9x : codeIn K V4t "_law_due" = true) (U4z : keepIn K (.ref V0z) = true) {Z9h Z4z : Option Addr} {Z8v : Array (Option Value)} {Y9u Z4w A0bm Z6m J8q A0at : Value} (G4e : nsIn K mainGlobals "_law_told" = some (some (.ref G6r))) (G2s : K.lookup G6r = some ⟨Y9u, Z9h, .func (fnOf "_law_told" "_law_told" (B9 B7j) (B8 B7j) (A2 B7j) .none Z4w A0bm Z6m Z4z J8q A0at), Z8v⟩) (J3b : codeIn K J8q "_law_told" = true) (J1s : keepIn K (.ref G6r) = true) {Z9q Z6s : Option Addr} {Z1t : Array (Option Value)} {Z3k A0bu A0fg A0fn J9f A0aq : Value} (G3n : nsIn K mainGlobals "_law_bent" = some (some (.ref G8n))) (J3w : K.lookup G8n = some ⟨Z3k, Z9q, .func (fnOf "_law_bent" "_law_bent" (B9 B7t) (B8 B7t) (A2 B7t) .none A0bu A0fg A0fn Z6s J9f A0aq), Z1t⟩) (G9z : codeIn K J9f "_law_bent" = true) (J3a : keepIn K (.ref G8n) = true) {A0ve Z9n : Option Addr} {A0uj : Array (Option Value)} {A0uz Z6w Z9k A0cc U3y A0cb : Value} (V4n : nsIn K mainGlobals "law" = some (some (.ref Z7p))) (Z1x : K.lookup Z7p = some ⟨A0uz, A0ve, .func (fnOf "law" "law" (B9 G1q) (B8 G1q) (A2 G1q) .none Z6w Z9k A0cc Z9n U3y A0cb), A0uj⟩) (A0ax : codeIn K U3y "law" = true) (A0ff : keepIn K (.ref Z7p) = true) (A9a : nsIn K mainGlobals "isinstance" = some none) (Z2q : nsIn K mainGlobals "int" = some none) (U7e : nsIn K mainGlobals "bool" = some none) (A0bs : nsIn K mainGlobals "str" = some none) (U5r : nsIn K mainGlobals "list" = some none) (G6e : nsIn K mainGlobals "tuple" = some none) (U7g : nsIn K mainGlobals "dict" = some none) (Z9d : nsIn K mainGlobals "len" = some none) (G4w : nsIn K mainGlobals "range" = some none) (Z8d : nsIn K mainGlobals "min" = some none) (Z7v : nsIn K mainGlobals "max" = some none) (Z0q : nsIn K mainGlobals "abs" = some none) (Y8q : nsIn K mainGlobals "any" = some none) (Z7k : nsIn K mainGlobals "all" = some none) (A0ce : nsIn K mainGlobals "sum" = some none) (V1v : nsIn K mainGlobals "repr" = some none) (B2j : nsIn K mainGlobals "enumerate" = some none) (B8j : nsIn K mainGlobals "reversed" = some none) (Z3v : nsIn K mainGlobals "zip" = some none) (D1c : nsIn K mainGlobals "sorted" = some none) (D4s : nsIn K mainGlobals "divmod" = some none) (A0bj : nsIn K mainGlobals "set" = some none) (A9k : nsIn K mainGlobals "ValueError" = some none) (B9s : kitOne K (.type "int") (.type "int") = some true) (B4p : kitOne K (.type "int") (.type "bool") = some false) (B8z : kitOne K (.type "int") (.type "str") = some false) (B5e : kitOne K (.type "int") (.type "list") = some false) (A9e : kitOne K (.type "int") (.type "tuple") = some false) (B3e : kitOne K (.type "int") (.type "dict") = some false) (B4c : kitOne K (.type "bool") (.type "int") = some true) (A8q : kitOne K (.type "bool") (.type "bool") = some true) (B4m : kitOne K (.type "bool") (.type "str") = some false) (A8m : kitOne K (.type "bool") (.type "list") = some false) (A6k : kitOne K (.type "bool") (.type "tuple") = some false) (A8n : kitOne K (.type "bool") (.type "dict") = some false) (B8k : kitOne K (.type "str") (.type "int") = some false) (B2q : kitOne K (.type "str") (.type "bool") = some false) (B8t : kitOne K (.type "str") (.type "str") = some true) (B5a : kitOne K (.type "str") (.type "list") = some false) (A8s : kitOne K (.type "str") (.type "tuple") = some false) (B2p : kitOne K (.type "str") (.type "dict") = some false) (B2n : kitOne K (.type "list") (.type "int") = some false) (A9b : kitOne K (.type "list") (.type "bool") = some false) (B3z : kitOne K (.type "list") (.type "str") = some false) (A9q : kitOne K (.type "list") (.type "list") = some true) (A6p : kitOne K (.type "list") (.type "tuple") = some false) (B0u : kitOne K (.type "list") (.type "dict") = some false) (B0g : kitOne K (.type "tuple") (.type "int") = some false) (A6m : kitOne K (.type "tuple") (.type "bool") = some false) (A9p : kitOne K (.type "tuple") (.type "str") = some false) (A6h : kitOne K (.type "tuple") (.type "list") = some false) (A5e : kitOne K (.type "tuple") (.type "tuple") = some true) (A6j : kitOne K (.type "tuple") (.type "dict") = some false) (B2s : kitOne K (.type "dict") (.type "int") = some false) (B0j : kitOne K (.type "dict") (.type "bool") = some false) (B5c : kitOne K (.type "dict") (.type "str") = some false) (A9r : kitOne K (.type "dict") (.type "list") = some false) (A6n : kitOne K (.type "dict") (.type "tuple") = some false) (A8y : kitOne K (.type "dict") (.type "dict") = some true) (A3j : kitOne K (.type "NoneType") (.type "int") = some false) (A2d : kitOne K (.type "NoneType") (.type "bool") = some false) (A3h : kitOne K (.type "NoneType") (.type "str") = some false) (A2g : kitOne K (.type "NoneType") (.type "list") = some false) (A1f : kitOne K (.type "NoneType") (.type "tuple") = some false) (A2e : kitOne K (.type "NoneType") (.type "dict") = some false) (sn : specialIn K (.builtin "object.__class__") "__get__" = some (some (.builtin "getset_descriptor.__get__"))) (tk : takesIn K (.builtin "object.__class__") = some true) (a_CW : nsIn K mainGlobals "Way" = some (some (.ref CW))) (a_W0 : nsIn K mainGlobals "Down" = some (some (.ref W0))) (Z2b : plainGet K W0 Str.empty = true) (Z5j : hasDictIn K W0 = true) (Z9x : plainOver K W0 = true) (Z6p : findIn K (.ref W0) "__setattr__" = some (some (.builtin "object.__setattr__"))) (Z5z : makesIn K W0 = true) (Z0c : keepIn K (.ref W0) = true) (Z2z : findIn K (.ref W0) "__class__" = some (some (.builtin "object.__class__"))) (A0ed : mroIn K W0 (.type "object") = some true) (Y8r : findIn K (.ref W0) "__init__" = some (some (.builtin "object.__init__"))) (Z9w : kitOne K (.ref W0) (.ref CW) = some true) (C4p : findIn K (.ref W0) "name" = some (some (.ref A7m))) (C5k : isFn K (.ref A7m) = true) {U3u U9u : Option Addr} {U2u : Array (Option Value)} {U5x V1a V1f U2v D2n U4m : Value} (C5n : K.lookup A7m = some ⟨U5x, U3u, .func (fnOf "name" "Down.name" (B9 sN0) (B8 sN0) (A2 sN0) .none V1a V1f U2v U9u D2n U4m), U2u⟩) (C3e : codeIn K D2n "Down.name" = true) (B5z : keepIn K (.ref A7m) = true) (a_W1 : nsIn K mainGlobals "Up" = some (some (.ref W1))) (A0fe : plainGet K W1 Str.empty = true) (A0dr : hasDictIn K W1 = true) (A0bk : plainOver K W1 = true) (A0en : findIn K (.ref W1) "__setattr__" = some (some (.builtin "object.__setattr__"))) (Z0s : makesIn K W1 = true) (A0ad : keepIn K (.ref W1) = true) (Z0m : findIn K (.ref W1) "__class__" = some (some (.builtin "object.__class__"))) (Z8b : mroIn K W1 (.type "object") = some true) (A0aw : findIn K (.ref W1) "__init__" = some (some (.builtin "object.__init__"))) (Z1u : kitOne K (.ref W1) (.ref CW) = some true) (C5g : findIn K (.ref W1) "name" = some (some (.ref A7n))) (C3x : isFn K (.ref A7n) = true) {V0g U5j : Option Addr} {U7t : Array (Option Value)} {U2t U6y V1h U8k D2k U8p : Value} (C5h : K.lookup A7n = some ⟨U2t, V0g, .func (fnOf "name" "Up.name" (B9 sN1) (B8 sN1) (A2 sN1) .none U6y V1h U8k U5j D2k U8p), U7t⟩) (C3k : codeIn K D2k "Up.name" = true) (B6c : keepIn K (.ref A7n) = true) (a_W2 : nsIn K mainGlobals "Floor" = some (some (.ref W2))) (A0ca : plainGet K W2 Str.empty = true) (Z5d : hasDictIn K W2 = true) (A0be : plainOver K W2 = true) (Z5x : findIn K (.ref W2) "__setattr__" = some (some (.builtin "object.__setattr__"))) (Z4s : makesIn K W2 = true) (Z7q : keepIn K (.ref W2) = true) (Y8p : findIn K (.ref W2) "__class__" = some (some (.builtin "object.__class__"))) (Y9f : mroIn K W2 (.type "object") = some true) (Z2t : findIn K (.ref W2) "__init__" = some (some (.builtin "object.__init__"))) (A0ex : kitOne K (.ref W2) (.ref CW) = some true) (C4b : findIn K (.ref W2) "name" = some (some (.ref A7d))) (C5q : isFn K (.ref A7d) = true) {U9z U2h : Option Addr} {U5y : Array (Option Value)} {U9g V0v U2b U5z D1t U7s : Value} (C6c : K.lookup A7d = some ⟨U9g, U9z, .func (fnOf "name" "Floor.name" (B9 sN2) (B8 sN2) (A2 sN2) .none V0v U2b U5z U2h D1t U7s), U5y⟩) (C3h : codeIn K D1t "Floor.name" = true) (B6f : keepIn K (.ref A7d) = true) (a_W3 : nsIn K mainGlobals "Ceiling" = some (some (.ref W3))) (A0dd : plainGet K W3 Str.empty = true) (A0dz : hasDictIn K W3 = true) (Z4y : plainOver K W3 = true) (Z6v : findIn K (.ref W3) "__setattr__" = some (some (.builtin "object.__setattr__"))) (Z9j : makesIn K W3 = true) (A0bc : keepIn K (.ref W3) = true) (Z1j : findIn K (.ref W3) "__class__" = some (some (.builtin "object.__class__"))) (A0ak : mroIn K W3 (.type "object") = some true) (A0cg : findIn K (.ref W3) "__init__" = some (some (.builtin "object.__init__"))) (Z6e : kitOne K (.ref W3) (.ref CW) = some true) (C6a : findIn K (.ref W3) "name" = some (some (.ref A7g))) (C2j : isFn K (.ref A7g) = true) {U7x U9c : Option Addr} {U4h : Array (Option Value)} {U7n U2f U9s U5u D0j U5w : Value} (C2e : K.lookup A7g = some ⟨U7n, U7x, .func (fnOf "name" "Ceiling.name" (B9 sN3) (B8 sN3) (A2 sN3) .none U2f U9s U5u U9c D0j U5w), U4h⟩) (C2u : codeIn K D0j "Ceiling.name" = true) (B6j : keepIn K (.ref A7g) = true) (a_W4 : nsIn K mainGlobals "HalfUp" = some (some (.ref W4))) (Z2f : plainGet K W4 Str.empty = true) (Z1b : hasDictIn K W4 = true) (A0bw : plainOver K W4 = true) (A0ck : findIn K (.ref W4) "__setattr__" = some (some (.builtin "object.__setattr__"))) (Z6x : makesIn K W4 = true) (Y9k : keepIn K (.ref W4) = true) (Z8k : findIn K (.ref W4) "__class__" = some (some (.builtin "object.__class__"))) (A0ek : mroIn K W4 (.type "object") = some true) (Z1s : findIn K (.ref W4) "__init__" = some (some (.builtin "object.__init__"))) (Z7t : kitOne K (.ref W4) (.ref CW) = some true) (C4m : findIn K (.ref W4) "name" = some (some (.ref A7e))) (C2c : isFn K (.ref A7e) = true) {U8w U5v : Option Addr} {U3n : Array (Option Value)} {V0q V1w U3k U2e D3r U6r : Value} (C2t : K.lookup A7e = some ⟨V0q, U8w, .func (fnOf "name" "HalfUp.name" (B9 sN4) (B8 sN4) (A2 sN4) .none V1w U3k U2e U5v D3r U6r), U3n⟩) (C4d : codeIn K D3r "HalfUp.name" = true) (B6g : keepIn K (.ref A7e) = true) (a_W5 : nsIn K mainGlobals "HalfDown" = some (some (.ref W5))) (Z6f : plainGet K W5 Str.empty = true) (Z4x : hasDictIn K W5 = true) (Z5u : plainOver K W5 = true) (Y9n : findIn K (.ref W5) "__setattr__" = some (some (.builtin "object.__setattr__"))) (Z4v : makesIn K W5 = true) (Y8v : keepIn K (.ref W5) = true) (A0av : findIn K (.ref W5) "__class__" = some (some (.builtin "object.__class__"))) (A0bd : mroIn K W5 (.type "object") = some true) (Z0f : findIn K (.ref W5) "__init__" = some (some (.builtin "object.__init__"))) (Z7e : kitOne K (.ref W5) (.ref CW) = some true) (C4v : findIn K (.ref W5) "name" = some (some (.ref A7k))) (C4k : isFn K (.ref A7k) = true) {U6g U8b : Option Addr} {U8e : Array (Option Value)} {V1b U2a U3r U4j D1w U1z : Value} (C5w : K.lookup A7k = some ⟨V1b, U6g, .func (fnOf "name" "HalfDown.name" (B9 sN5) (B8 sN5) (A2 sN5) .none U2a U3r U4j U8b D1w U1z), U8e⟩) (C2g : codeIn K D1w "HalfDown.name" = true) (B6a : keepIn K (.ref A7k) = true) (a_W6 : nsIn K mainGlobals "HalfEven" = some (some (.ref W6))) (Y9v : plainGet K W6 Str.empty = true) (Z8r : hasDictIn K W6 = true) (Z0e : plainOver K W6 = true) (Y8y : findIn K (.ref W6) "__setattr__" = some (some (.builtin "object.__setattr__"))) (Z7u : makesIn K W6 = true) (A0cv : keepIn K (.ref W6) = true) (A0fd : findIn K (.ref W6) "__class__" = some (some (.builtin "object.__class__"))) (A0am : mroIn K W6 (.type "object") = some true) (Z8w : findIn K (.ref W6) "__init__" = some (some (.builtin "object.__init__"))) (Z5h : kitOne K (.ref W6) (.ref CW) = some true) (C4n : findIn K (.ref W6) "name" = some (some (.ref A7h))) (C2x : isFn K (.ref A7h) = true) {U3e U6j : Option Addr} {V1t : Array (Option Value)} {U3f V0b U9h U8z D4e U5b : Value} (C3s : K.lookup A7h = some ⟨U3f, U3e, .func (fnOf "name" "HalfEven.name" (B9 sN6) (B8 sN6) (A2 sN6) .none V0b U9h U8z U6j D4e U5b), V1t⟩) (C2f : codeIn K D4e "HalfEven.name" = true) (B5y : keepIn K (.ref A7h) = true) (a_W7 : nsIn K mainGlobals "FiveUp" = some (some (.ref W7))) (A0eq : plainGet K W7 Str.empty = true) (A0ac : hasDictIn K W7 = true) (Z3r : plainOver K W7 = true) (Z9z : findIn K (.ref W7) "__setattr__" = some (some (.builtin "object.__setattr__"))) (Z2m : makesIn K W7 = true) (A0er : keepIn K (.ref W7) = true) (A0cz : findIn K (.ref W7) "__class__" = some (some (.builtin "object.__class__"))) (Z5n : mroIn K W7 (.type "object") = some true) (Z6g : findIn K (.ref W7) "__init__" = some (some (.builtin "object.__init__"))) (A0bg : kitOne K (.ref W7) (.ref CW) = some true) (C5u : findIn K (.ref W7) "name" = some (some (.ref A7f))) (C3m : isFn K (.ref A7f) = true) {V2h U5p : Option Addr} {V1y : Array (Option Value)} {U8t V0n U3h U6b D4w U3w : Value} (C2d : K.lookup A7f = some ⟨U8t, V2h, .func (fnOf "name" "FiveUp.name" (B9 sN7) (B8 sN7) (A2 sN7) .none V0n U3h U6b U5p D4w U3w), V1y⟩) (C3z : codeIn K D4w "FiveUp.name" = true) (B6d : keepIn K (.ref A7f) = true) (a_CN : nsIn K mainGlobals "Number" = some (some (.ref CN))) (A0dj : plainGet K CN Str.empty = true) (Z2a : hasDictIn K CN = true) (A0dk : plainOver K CN = true) (Z6n : findIn K (.ref CN) "__setattr__" = some (some (.builtin "object.__setattr__"))) (Z9y : makesIn K CN = true) (Y9s : keepIn K (.ref CN) = true) (Z4e : findIn K (.ref CN) "__class__" = some (some (.builtin "object.__class__"))) (A0dt : mroIn K CN (.type "object") = some true) (C3g : findIn K (.ref CN) "kind" = some none) (C4j : findIn K (.ref CN) "sign" = some none) (A8w : findIn K (.ref CN) "figures" = some none) (B8q : findIn K (.ref CN) "power" = some none) (Z2x : findIn K (.ref CN) "__init__" = some (some (.ref G0n))) (Y8s : isFn K (.ref G0n) = true) {A0wv A0uu : Option Addr} {A0wj : Array (Option Value)} {A0vb A0ud A0ub A0vk Z8q A0vd : Value} (A0bq : K.lookup G0n = some ⟨A0vb, A0wv, .func (fnOf "__init__" "Number.__init__" (B9 D9z) (B8 D9z) (A2 D9z) .none A0ud A0ub A0vk A0uu Z8q A0vd), A0wj⟩) (A0dy : codeIn K Z8q "Number.__init__" = true) (A0bv : keepIn K (.ref G0n) = true) (G6g : kitOne K (.ref CN) (.ref CN) = some true) (A9f : findIn K (.ref W0) "goes_up" = some (some (.ref A1h))) (B0v : isFn K (.ref A1h) = true) {D5g D7v : Option Addr} {D5u : Array (Option Value)} {D8n D5r D6d D7c B7c D6z : Value} (B0a : K.lookup A1h = some ⟨D8n, D5g, .func (fnOf "goes_up" "Down.goes_up" (B9 sU0) (B8 sU0) (A2 sU0) .none D5r D6d D7c D7v B7c D6z), D5u⟩) (A8z : codeIn K B7c "Down.goes_up" = true) (A3y : keepIn K (.ref A1h) = true) (B3r : findIn K (.ref W0) "to_end" = some (some (.ref A2x))) (B2u : isFn K (.ref A2x) = true) {G6m J1p : Option Addr} {G5b : Array (Option Value)} {G9f G5s G9e J3n C0z J1u : Value} (B3h : K.lookup A2x = some ⟨G9f, G6m, .func (fnOf "to_end" "Down.to_end" (B9 sT0) (B8 sT0) (A2 sT0) .none G5s G9e J3n J1p C0z J1u), G5b⟩) (B2h : codeIn K C0z "Down.to_end" = true) (A5u : keepIn K (.ref A2x) = true) (B0s : findIn K (.ref W1) "goes_up" = some (some (.ref A1m))) (A9u : isFn K (.ref A1m) = true) {D7e D8f : Option Addr} {D6u : Array (Option Value)} {D7b D7t D5t D8d B7b D5p : Value} (A9g : K.lookup A1m = some ⟨D7b, D7e, .func (fnOf "goes_up" "Up.goes_up" (B9 sU1) (B8 sU1) (A2 sU1) .none D7t D5t D8d D8f B7b D5p), D6u⟩) (A8x : codeIn K B7b "Up.goes_up" = true) (A3t : keepIn K (.ref A1m) = true) (B4x : findIn K (.ref W1) "to_end" = some (some (.ref A2y))) (B2b : isFn K (.ref A2y) = true) {G8m G6j : Option Addr} {G4g : Array (Option Value)} {G9q G7e G9t G6k C1c G9m : Value} (B2z : K.lookup A2y = some ⟨G9q, G8m, .func (fnOf "to_end" "Up.to_end" (B9 sT1) (B8 sT1) (A2 sT1) .none G7e G9t G6k G6j C1c G9m), G4g⟩) (B3j : codeIn K C1c "Up.to_end" = true) (A5s : keepIn K (.ref A2y) = true) (B0m : findIn K (.ref W2) "goes_up" = some (some (.ref A1e))) (B0k : isFn K (.ref A1e) = true) {D6m D7q : Option Addr} {D5h : Array (Option Value)} {D7p D6t D5x D5q B7e D7u : Value} (B0h : K.lookup A1e = some ⟨D7p, D6m, .func (fnOf "goes_up" "Floor.goes_up" (B9 sU2) (B8 sU2) (A2 sU2) .none D6t D5x D5q D7q B7e D7u), D5h⟩) (B0w : codeIn K B7e "Floor.goes_up" = true) (A3s : keepIn K (.ref A1e) = true) (B4q : findIn K (.ref W2) "to_end" = some (some (.ref A2z))) (B4s : isFn K (.ref A2z) = true) {G5m J3g : Option Addr} {G7b : Array (Option Value)} {G9s G8q G7p J3c C0w G4x : Value} (B4h : K.lookup A2z = some ⟨G9s, G5m, .func (fnOf "to_end" "Floor.to_end" (B9 sT2) (B8 sT2) (A2 sT2) .none G8q G7p J3c J3g C0w G4x), G7b⟩) (B2f : codeIn K C0w "Floor.to_end" = true) (A5x : keepIn K (.ref A2z) = true) (A9v : findIn K (.ref W3) "goes_up" = some (some (.ref A1j))) (A9n : isFn K (.ref A1j) = true) {D6a D6f : Option Addr} {D5j : Array (Option Value)} {D5k D6k D6v D6x B7d D8j : Value} (A8v : K.lookup A1j = some ⟨D5k, D6a, .func (fnOf "goes_up" "Ceiling.goes_up" (B9 sU3) (B8 sU3) (A2 sU3) .none D6k D6v D6x D6f B7d D8j), D5j⟩) (B0x : codeIn K B7d "Ceiling.goes_up" = true) (A3x : keepIn K (.ref A1j) = true) (B2a : findIn K (.ref W3) "to_end" = some (some (.ref A3c))) (B4e : isFn K (.ref A3c) = true) {J1k J1m : Option Addr} {G9b : Array (Option Value)} {G3f J3h J1d J0j C0t J0k : Value} (B5h : K.lookup A3c = some ⟨G3f, J1k, .func (fnOf "to_end" "Ceiling.to_end" (B9 sT3) (B8 sT3) (A2 sT3) .none J3h J1d J0j J1m C0t J0k), G9b⟩) (B2d : codeIn K C0t "Ceiling.to_end" = true) (A5v : keepIn K (.ref A3c) = true) (A9j : findIn K (.ref W4) "goes_up" = some (some (.ref A1k))) (A9t : isFn K (.ref A1k) = true) {D6c D7d : Option Addr} {D8e : Array (Option Value)} {D5m D7x D6j D6g B6w D8q : Value} (B0f : K.lookup A1k = some ⟨D5m, D6c, .func (fnOf "goes_up" "HalfUp.goes_up" (B9 sU4) (B8 sU4) (A2 sU4) .none D7x D6j D6g D7d B6w D8q), D8e⟩) (A8k : codeIn K B6w "HalfUp.goes_up" = true) (A3v : keepIn K (.ref A1k) = true) (B2v : findIn K (.ref W4) "to_end" = some (some (.ref A2w))) (B2x : isFn K (.ref A2w) = true) {G4m G9x : Option Addr} {G8b : Array (Option Value)} {G5w G5f J0y G8r C1b G5q : Value} (B4w : K.lookup A2w = some ⟨G5w, G4m, .func (fnOf "to_end" "HalfUp.to_end" (B9 sT4) (B8 sT4) (A2 sT4) .none G5f J0y G8r G9x C1b G5q), G8b⟩) (B4u : codeIn K C1b "HalfUp.to_end" = true) (A5t : keepIn K (.ref A2w) = true) (A9h : findIn K (.ref W5) "goes_up" = some (some (.ref A1g))) (B0q : isFn K (.ref A1g) = true) {D8m D8p : Option Addr} {D7r : Array (Option Value)} {D8g D8b D8t D6y B7a D6r : Value} (A9d : K.lookup A1g = some ⟨D8g, D8m, .func (fnOf "goes_up" "HalfDown.goes_up" (B9 sU5) (B8 sU5) (A2 sU5) .none D8b D8t D6y D8p B7a D6r), D7r⟩) (A9y : codeIn K B7a "HalfDown.goes_up" = true) (A3w : keepIn K (.ref A1g) = true) (B4n : findIn K (.ref W5) "to_end" = some (some (.ref A3e))) (B3s : isFn K (.ref A3e) = true) {G3s J2j : Option Addr} {G4a : Array (Option Value)} {G3k G7a J2d J2y C1f G7j : Value} (B2r : K.lookup A3e = some ⟨G3k, G3s, .func (fnOf "to_end" "HalfDown.to_end" (B9 sT5) (B8 sT5) (A2 sT5) .none G7a J2d J2y J2j C1f G7j), G4a⟩) (B3x : codeIn K C1f "HalfDown.to_end" = true) (A5q : keepIn K (.ref A3e) = true) (A9s : findIn K (.ref W6) "goes_up" = some (some (.ref A1p))) (B0t : isFn K (.ref A1p) = true) {D7m D6b : Option Addr} {D5v : Array (Option Value)} {D7h D5n D8c D8k B6x D8h : Value} (B0d : K.lookup A1p = some ⟨D7h, D7m, .func (fnOf "goes_up" "HalfEven.goes_up" (B9 sU6) (B8 sU6) (A2 sU6) .none D5n D8c D8k D6b B6x D8h), D5v⟩) (B0n : codeIn K B6x "HalfEven.goes_up" = true) (A3z : keepIn K (.ref A1p) = true) (B4r : findIn K (.ref W6) "to_end" = some (some (.ref A3a))) (B2y : isFn K (.ref A3a) = true) {J0g J1c : Option Addr} {G7w : Array (Option Value)} {G7y G7g J3s G4r C0q G8y : Value} (B4z : K.lookup A3a = some ⟨G7y, J0g, .func (fnOf "to_end" "HalfEven.to_end" (B9 sT6) (B8 sT6) (A2 sT6) .none G7g J3s G4r J1c C0q G8y), G7w⟩) (B3p : codeIn K C0q "HalfEven.to_end" = true) (A5y : keepIn K (.ref A3a) = true) (A9x : findIn K (.ref W7) "goes_up" = some (some (.ref A1n))) (A8t : isFn K (.ref A1n) = true) {D7a D8r : Option Addr} {D6e : Array (Option Value)} {D5w D7j D6p D6h B6z D7w : Value} (B0p : K.lookup A1n = some ⟨D5w, D7a, .func (fnOf "goes_up" "FiveUp.goes_up" (B9 sU7) (B8 sU7) (A2 sU7) .none D7j D6p D6h D8r B6z D7w), D6e⟩) (A8r : codeIn K B6z "FiveUp.goes_up" = true) (A3u : keepIn K (.ref A1n) = true) (B4t : findIn K (.ref W7) "to_end" = some (some (.ref A3b))) (B3n : isFn K (.ref A3b) = true) {G9g G4u : Option Addr} {G8k : Array (Option Value)} {J3m G8j G4y G7f C0s G4c : Value} (B5b : K.lookup A3b = some ⟨J3m, G9g, .func (fnOf "to_end" "FiveUp.to_end" (B9 sT7) (B8 sT7) (A2 sT7) .none G8j G4y G7f G4u C0s G4c), G8k⟩) (B2g : codeIn K C0s "FiveUp.to_end" = true) (A5r : keepIn K (.ref A3b) = true) (a_CC : nsIn K mainGlobals "Context" = some (some (.ref CC))) (A0cp : plainGet K CC Str.empty = true) (Z8x : hasDictIn K CC = true) (A0fu : plainOver K CC = true) (A0da : findIn K (.ref CC) "__setattr__" = some (some (.builtin "object.__setattr__"))) (Z3g : makesIn K CC = true) (Z3t : keepIn K (.ref CC) = true) (C3t : findIn K (.ref CC) "room" = some none) (C5t : findIn K (.ref CC) "rule" = some none) (B9q : findIn K (.ref CC) "least" = some none) (C5a : findIn K (.ref CC) "most" = some none) (B8m : findIn K (.ref CC) "risen" = some none) (B0b : findIn K (.ref CC) "trapped" = some none) (A0af : findIn K (.ref CC) "__init__" = some (some (.ref G0g))) (Z3y : isFn K (.ref G0g) = true) {A0wf Z6q : Option Addr} {A0vr : Array (Option Value)} {A0wn Z2h Y9x Z1c V2e A0fa : Value} (A0ep : K.lookup G0g = some ⟨A0wn, A0wf, .func (fnOf "__init__" "Context.__init__" (B9 A1d) (B8 A1d) (A2 A1d) (.ref Y9w) Z2h Y9x Z1c Z6q V2e A0fa), A0vr⟩) (A0ar : codeIn K V2e "Context.__init__" = true) (Z1k : keepIn K (.ref G0g) = true) {A1au A1bv A1be : Tok} {A1ar : Nat} {A0ua : Option Addr} {A0wx : Value} {A0ww : Array (Option Value)} (Z8t : K.lookup Y9w = some ⟨A0wx, A0ua, .seq #[.int 9 A1au, .str "half even" A1bv, .none, .int 60 A1be] A1ar, A0ww⟩) (B9t : findIn K (.ref CC) "flags" = some (some (.ref A5d))) (B9g : isFn K (.ref A5d) = true) {J7t J6s : Option Addr} {J5x : Array (Option Value)} {J5v J8n J9q J7f C6w J8d : Value} (B9p : K.lookup A5d = some ⟨J5v, J7t, .func (fnOf "flags" "Context.flags" (B9 A4e) (B8 A4e) (A2 A4e) .none J8n J9q J7f J6s C6w J8d), J5x⟩) (B9m : codeIn K C6w "Context.flags" = true) (A8u : keepIn K (.ref A5d) = true) (B4d : findIn K (.ref CC) "lowest" = some (some (.ref A2v))) (B3k : isFn K (.ref A2v) = true) {G9p G5v : Option Addr} {G2y : Array (Option Value)} {G7v G8c G5p G7t C0p G6q : Value} (B3g : K.lookup A2v = some ⟨G7v, G9p, .func (fnOf "lowest" "Context.lowest" (B9 B5q) (B8 B5q) (A2 B5q) .none G8c G5p G7t G5v C0p G6q), G2y⟩) (B3u : codeIn K C0p "Context.lowest" = true) (A5z : keepIn K (.ref A2v) = true) (D2u : findIn K (.ref CC) "way" = some (some (.ref B3f))) (D2s : isFn K (.ref B3f) = true) {Y3z V8n : Option Addr} {Y2u : Array (Option Value)} {V8w V8j V9h Y2q G0f Y0c : Value} (D3e : K.lookup B3f = some ⟨V8w, Y3z, .func (fnOf "way" "Context.way" (B9 B5s) (B8 B5s) (A2 B5s) .none V8j V9h Y2q V8n G0f Y0c), Y2u⟩) (D2w : codeIn K G0f "Context.way" = true) (C0v : keepIn K (.ref B3f) = true) (B4f : findIn K (.ref CC) "raised" = some (some (.ref A3d))) (B2k : isFn K (.ref A3d) = true) {G4z G9u : Option Addr} {G3q : Array (Option Value)} {J0w G9r G8g J2h C1g G5c : Value} (B3t : K.lookup A3d = some ⟨J0w, G4z, .func (fnOf "raised" "Context.raised" (B9 A1u) (B8 A1u) (A2 A1u) .none G9r G8g J2h G9u C1g G5c), G3q⟩) (B4k : codeIn K C1g "Context.raised" = true) (A6a : keepIn K (.ref A3d) = true) (B8g : findIn K (.ref CC) "clear" = some (some (.ref A5c))) (B9a : isFn K (.ref A5c) = true) {J8a J8s : Option Addr} {J6g : Array (Option Value)} {J8r J6x J8t J6k C6z J8b : Value} (B8h : K.lookup A5c = some ⟨J8r, J8a, .func (fnOf "clear" "Context.clear" (B9 A4d) (B8 A4d) (A2 A4d) .none J6x J8t J6k J8s C6z J8b), J6g⟩) (B8p : codeIn K C6z "Context.clear" = true) (A8j : keepIn K (.ref A5c) = true) (a_CQ : nsIn K mainGlobals "Ratio" = some (some (.ref CQ))) (Z3d : plainGet K CQ Str.empty = true) (Z5b : hasDictIn K CQ = true) (Z8p : plainOver K CQ = true) (Z4t : findIn K (.ref CQ) "__setattr__" = some (some (.builtin "object.__setattr__"))) (A0ab : makesIn K CQ = true) (A0ct : keepIn K (.ref CQ) = true) (A0es : findIn K (.ref CQ) "__class__" = some (some (.builtin "object.__class__"))) (Z5a : mroIn K CQ (.type "object") = some true) (D2m : findIn K (.ref CQ) "top" = some none) (B4y : findIn K (.ref CQ) "bottom" = some none) (B8x : findIn K (.ref CQ) "power" = some none) (Z6d : findIn K (.ref CQ) "__init__" = some (some (.ref G0q))) (A0aa : isFn K (.ref G0q) = true) {A0wm Z5y : Option Addr} {A0vn : Array (Option Value)} {A0xa A0ap Z3a A0ev U5n Z4g : Value} (A0ae : K.lookup G0q = some ⟨A0xa, A0wm, .func (fnOf "__init__" "Ratio.__init__" (B9 A8h) (B8 A8h) (A2 A8h) (.ref Z9g) A0ap Z3a A0ev Z5y U5n Z4g), A0vn⟩) (Z2c : codeIn K U5n "Ratio.__init__" = true) (Y9g : keepIn K (.ref G0q) = true) {A0rc : Tok} {A1ay : Nat} {A0uy : Option Addr} {A0vu : Value} {A0va : Array (Option Value)} (J6d : K.lookup Z9g = some ⟨A0vu, A0uy, .seq #[.int 0 A0rc] A1ay, A0va⟩) (B9b : findIn K (.ref CQ) "first" = some (some (.ref A2f))) (B9f : isFn K (.ref A2f) = true) {J9j J8g : Option Addr} {J9n : Array (Option Value)} {J9s J6h J9g J8y C6x J9c : Value} (B8n : K.lookup A2f = some ⟨J9s, J9j, .func (fnOf "first" "Ratio.first" (B9 A4y) (B8 A4y) (A2 A4y) .none J6h J9g J8y J8g C6x J9c), J9n⟩) (B9r : codeIn K C6x "Ratio.first" = true) (B0e : keepIn K (.ref A2f) = true) (G3r : findIn K (.ref CQ) "at" = some (some (.ref B6k))) (J1z : isFn K (.ref B6k) = true) {Z4n A0eb : Option Addr} {Z5w : Array (Option Value)} {Z5k Z8j Z7m Z6c J7m Z7x : Value} (J3r : K.lookup B6k = some ⟨Z5k, Z4n, .func (fnOf "at" "Ratio.at" (B9 C9k) (B8 C9k) (A2 C9k) .none Z8j Z7m Z6c A0eb J7m Z7x), Z5w⟩) (G3d : codeIn K J7m "Ratio.at" = true) (C7t : keepIn K (.ref B6k) = true) (a_CE : nsIn K mainGlobals "Exact" = some (some (.ref CE))) (Z1h : kitOne K (.ref CQ) (.ref CE) = some true) (a_C1 : nsIn K mainGlobals "BadContext" = some (some (.ref C1))) (a_C2 : nsIn K mainGlobals "BadNumber" = some (some (.ref C2))) (a_C3 : nsIn K mainGlobals "BadCount" = some (some (.ref C3))) (a_C4 : nsIn K mainGlobals "Trapped" = some (some (.ref C4))) (a_CR : nsIn K mainGlobals "ReckonError" = some (some (.ref CR))) (cty : typeIn K (.ref CR) = some (.type "type")) {dR : ClassData} (ccl : clsIn K CR = some dR) (cex : subIn K (.ref CR) (.type "BaseException") = some true) (sub4 : subIn K (.ref C4) (.ref CR) = some true) (xga4 : findIn K (.ref C4) "__getattribute__" = some (some (.builtin "BaseException.__getattribute__"))) (xgh4 : findIn K (.ref C4) "__getattr__" = some none) (xca4 : findIn K (.ref C4) "__class__" = some (some (.builtin "object.__class__"))) (xob4 : mroIn K C4 (.type "object") = some true) (xbe4 : subIn K (.ref C4) (.type "BaseException") = some true) {d4 : ClassData} (xcl4 : clsIn K C4 = some d4) (h4_1 : kitOne K (.ref C4) (.ref C1) = some false) (h4_2 : kitOne K (.ref C4) (.ref C2) = some false) (h4_3 : kitOne K (.ref C4) (.ref C3) = some false) (h4_4 : kitOne K (.ref C4) (.ref C4) = some true) (hv4 : kitOne K (.ref C4) (.type "ValueError") = some true) {nmT qT : Str} {NT : Addr} {bsT bmT : List Value} {snT : List Str} {suT : List Value} {abT : Bool} {coT : Option Bool} {ddT : Option Addr} {kT0 kT1 kT2 kT3 kT5 : Option Value} (lT : K.lookup C4 = some (excClassObj nmT qT C4 NT bsT bmT true snT suT abT coT ddT kT0 kT1 kT2 kT3 kT5 "ValueError.__new__")) {ocN : Value} {odN : Option Addr} {esN : Array DictEntry} {epN : Nat} {slN : Array (Option Value)} (lN : K.lookup NT = some ⟨ocN, odN, .dict esN epN, slN⟩) (alN : (esN.all fun e => match e.key with | .str _ _ => true | _ => false) = true) (niT : nsIn K NT "__init__" = some (some (.ref fX))) {nmU qU : Str} {NU : Addr} {bsU : List Value} {snU : List Str} {suU : List Value} {abU : Bool} {coU : Option Bool} {ddU : Option Addr} {kU0 kU1 kU2 kU3 kU5 : Option Value} (lT1 : K.lookup C1 = some (excClassObj nmU qU C1 NU bsU bmT true snU suU abU coU ddU kU0 kU1 kU2 kU3 kU5 "ValueError.__new__")) (saT : findIn K (.ref C4) "__setattr__" = some (some (.builtin "object.__setattr__"))) (nsg4 : findIn K (.ref C4) "signal" = some none) {A1br A1bk : Option Addr} {A1bf : Array (Option Value)} {A0re A1ah A1by A1ca A0rb A1ax : Value} (l_iT : K.lookup fX = some ⟨A0re, A1br, .func (fnOf "__init__" "Trapped.__init__" (B9 B5k) (B8 B5k) (A2 B5k) .none A1ah A1by A1ca A1bk A0rb A1ax), A1bf⟩) (c_iT : codeIn K A0rb "Trapped.__init__" = true) (k_iT : keepIn K (.ref fX) = true) (fcT : A0re = .type "function") (kTR : kitOne K (.ref C4) (.ref CR) = some true) (q1 : excIn K C1 [.type "ValueError", .type "Exception", .type "BaseException", .type "object"] "ValueError.__new__" = true) (q2 : excIn K C2 [.type "ValueError", .type "Exception", .type "BaseException", .type "object"] "ValueError.__new__" = true) (q3 : excIn K C3 [.type "ValueError", .type "Exception", .type "BaseException", .type "object"] "ValueError.__new__" = true) (a_S : nsIn K mainGlobals "SIGNALS" = some (some (.ref aS))) {u0 u1 u2 u3 u4 u5 u6 : Tok} {nS : Nat} {odS : Option Addr} {slS : Array (Option Value)} (lS : K.lookup aS = some ⟨.type "tuple", odS, .seq #[.str "void" u0, .str "split" u1, .str "burst" u2, .str "sunk" u3, .str "faint" u4, .str "off" u5, .str "cut" u6] nS, slS⟩) (a_RO : nsIn K mainGlobals "Root" = some (some (.ref RO))) (Z5t : plainGet K RO Str.empty = true) (Y9h : hasDictIn K RO = true) (A0fr : plainOver K RO = true) (A0fp : findIn K (.ref RO) "__setattr__" = some (some (.builtin "object.__setattr__"))) (A0cs : makesIn K RO = true) (A0eh : keepIn K (.ref RO) = true) (Z0w : findIn K (.ref RO) "__class__" = some (some (.builtin "object.__class__"))) (A0ec : mroIn K RO (.type "object") = some true) (D4z : findIn K (.ref RO) "top" = some none) (B9d : findIn K (.ref RO) "power" = some none) (Z2s : findIn K (.ref RO) "__init__" = some (some (.ref G0k))) (Z3b : isFn K (.ref G0k) = true) {A0wh Z3f : Option Addr} {A0vc : Array (Option Value)} {A0vj A0ea Z9p A0as V1x Z8h : Value} (Z9t : K.lookup G0k = some ⟨A0vj, A0wh, .func (fnOf "__init__" "Root.__init__" (B9 A7p) (B8 A7p) (A2 A7p) (.ref Z4f) A0ea Z9p A0as Z3f V1x Z8h), A0vc⟩) (Z5e : codeIn K V1x "Root.__init__" = true) (Z9r : keepIn K (.ref G0k) = true) {A0rd : Tok} {A1cb : Nat} {A0ue : Option Addr} {A0uv : Value} {A0ux : Array (Option Value)} (J9b : K.lookup Z4f = some ⟨A0uv, A0ue, .seq #[.int 0 A0rd] A1cb, A0ux⟩) (B8v : findIn K (.ref RO) "first" = some (some (.ref A2b))) (B8r : isFn K (.ref A2b) = true) {J9p J5z : Option Addr} {J8v : Array (Option Value)} {J7b J9e J6b J8k C7a J5y : Value} (B9j : K.lookup A2b = some ⟨J7b, J9p, .func (fnOf "first" "Root.first" (B9 A4j) (B8 A4j) (A2 A4j) .none J9e J6b J8k J5z C7a J5y), J8v⟩) (B8f : codeIn K C7a "Root.first" = true) (A9c : keepIn K (.ref A2b) = true) (G8e : findIn K (.ref RO) "at" = some (some (.ref B6b))) (J2n : isFn K (.ref B6b) = true) {A0dw A0df : Option Addr} {A0an : Array (Option Value)} {Z8z A0du A0bn Z3x J7q A0dc : Value} (G7u : K.lookup B6b = some ⟨Z8z, A0dw, .func (fnOf "at" "Root.at" (B9 C9a) (B8 C9a) (A2 C9a) .none A0du A0bn Z3x A0df J7q A0dc), A0an⟩) (G7h : codeIn K J7q "Root.at" = true) (C7w : keepIn K (.ref B6b) = true) (A0cx : kitOne K (.ref RO) (.ref CE) = some true) : ∃ fd : FuncData, (∀ (s : Shared) (v : Value), BindsTo s fd ⟨[v], []⟩ [("_law_script", v)]) /\ ∀ base : Heap, K.In base -> base.Ns mainGlobals mg -> A8 l.prog w K mg base (CX1 l.prog w) 10 fa fd ["_law_script"] (V2p K) := by
 have e := hfa.symm.trans (mg_of X G V4n)
 cases e
 have A5w := G0 (ps := ["whole", "count"]) (st := A0d) X G B2m B5g B3d B3m fun _ _ _ _ _ _ us hl => match us, hl with | [_, _], _ => rfl
 have A2m := G0 (ps := ["count"]) (st := A0q) X G G8u J1y J2e J0v fun _ _ _ _ _ _ us hl => match us, hl with | [_], _ => rfl
 have D3z := G0 (ps := ["size", "middle"]) (st := A5p) X G D0x D0y D4r D0r fun _ _ _ _ _ _ us hl => match us, hl with | [_, _], _ => rfl
 have C7v := G0 (ps := ["whole"]) (st := A6c) X G G8t G7m J3j G3m fun _ _ _ _ _ _ us hl => match us, hl with | [_], _ => rfl
 have V5a := G0 (ps := ["whole"]) (st := B1x) X G G5g J2x J0u G9v fun _ _ _ _ _ _ us hl => match us, hl with | [_], _ => rfl
 have D_plain := G0 (ps := ["sign", "figures", "power"]) (st := B7h) X G G5k G6d J2p G9k fun _ _ _ _ _ _ us hl => match us, hl with | [_, _, _], _ => rfl
 have D_end := G0 (ps := ["sign"]) (st := G1r) X G A0dg Z2j A0em A0dv fun _ _ _ _ _ _ us hl => match us, hl with | [_], _ => rfl
 have D_nothing := G0 (ps := []) (st := Z0) X G C6g C3w C4z C3p fun _ _ _ _ _ _ us hl => match us, hl with | [], _ => rfl
 have D_told := G0 (ps := ["number"]) (st := C9s) X G U4d U6h U7d U3c fun _ _ _ _ _ _ us hl => match us, hl with | [_], _ => rfl
 have Y8w := G0 (ps := ["number"]) (st := C9y) X G V2b U4b V2a U1v fun _ _ _ _ _ _ us hl => match us, hl with | [_], _ => rfl
 have B6h := G0 (ps := ["thing"]) (st := A4p) X G J0c J0q G6u G3u fun _ _ _ _ _ _ us hl => match us, hl with | [_], _ => rfl
 have A8p := G0 (ps := ["things"]) (st := A3q) X G B8s B9u B8y B8u fun _ _ _ _ _ _ us hl => match us, hl with | [_], _ => rfl
 have C7u := G0 (ps := ["numbers", "kind"]) (st := A7q) X G G4v G9d G6s G5u fun _ _ _ _ _ _ us hl => match us, hl with | [_, _], _ => rfl
 have C0r := G0 (ps := ["one", "other"]) (st := A3r) X G D2z D4m D3v D2x fun _ _ _ _ _ _ us hl => match us, hl with | [_, _], _ => rfl
 have C1z := G0 (ps := ["number", "power"]) (st := A2p) X G C5x C2z C4c C2v fun _ _ _ _ _ _ us hl => match us, hl with | [_, _], _ => rfl
 have V5j := G0 (ps := ["thing", "least", "most"]) (st := C8e) X G Y9c A0ej Z6y Z2w fun _ _ _ _ _ _ us hl => match us, hl with | [_, _, _], _ => rfl
 have G0z := G0 (ps := ["thing", "least", "most"]) (st := A2s) X G C4a C3j C5v C5s fun _ _ _ _ _ _ us hl => match us, hl with | [_, _, _], _ => rfl
 have V4r := G0 (ps := ["thing", "most"]) (st := B7z) X G G4q J0p G4k G8d fun _ _ _ _ _ _ us hl => match us, hl with | [_, _], _ => rfl
 have D_settled := G0 (ps := ["context", "sign", "exact", "ideal"]) (st := A0b) X G C3u C6e C5d C3q fun _ _ _ _ _ _ us hl => match us, hl with | [_, _, _, _], _ => rfl
 have C1a := G0 (ps := ["context", "exact"]) (st := A5j) X G D2r D2a D3x D4v fun _ _ _ _ _ _ us hl => match us, hl with | [_, _], _ => rfl
 have C2k := G0 (ps := ["ideal", "sign", "figures", "power"]) (st := A2r) X G C5z C4t C5c C4g fun _ _ _ _ _ _ us hl => match us, hl with | [_, _, _, _], _ => rfl
 have D_neighbour := G0 (ps := ["context", "sign", "pair"]) (st := Z7) X G B3c B3b B4b B3y fun _ _ _ _ _ _ us hl => match us, hl with | [_, _, _], _ => rfl
 have D2d := G0 (ps := ["context", "sign", "figures", "power"]) (st := A5m) X G D1d D3m D1h D1a fun _ _ _ _ _ _ us hl => match us, hl with | [_, _, _, _], _ => rfl
 have D2y := G0 (ps := ["context", "number"]) (st := A5n) X G D4d D2j D4t D3t fun _ _ _ _ _ _ us hl => match us, hl with | [_, _], _ => rfl
 have D_burst := G0 (ps := ["context", "sign"]) (st := B1p) X G G2z G6t J1t J0t fun _ _ _ _ _ _ us hl => match us, hl with | [_, _], _ => rfl
 have D_nines := G0 (ps := ["context", "sign"]) (st := B1q) X G G4d G6w G9w J3t fun _ _ _ _ _ _ us hl => match us, hl with | [_, _], _ => rfl
 have C5m := G0 (ps := ["part", "is_cut"]) (st := A4v) X G C3b C3v C5e C6b fun _ _ _ _ _ _ us hl => match us, hl with | [_, _], _ => rfl
 have C5r := G0 (ps := ["context", "lead", "part"]) (st := A4z) X G C4q C2a C6h C2y fun _ _ _ _ _ _ us hl => match us, hl with | [_, _, _], _ => rfl
 have D_nought := G0 (ps := ["context", "sign", "ideal"]) (st := A0j) X G D2t D4a D1z D0k fun _ _ _ _ _ _ us hl => match us, hl with | [_, _, _], _ => rfl
 have D_void := G0 (ps := ["context"]) (st := B1m) X G U6w U5m U5a U8x fun _ _ _ _ _ _ us hl => match us, hl with | [_], _ => rfl
 have J1x := G0 (ps := ["context", "sign"]) (st := B0z) X G J3d G5z J2g G4p fun _ _ _ _ _ _ us hl => match us, hl with | [_, _], _ => rfl
 have D_rounded := G0 (ps := ["context", "number"]) (st := A4q) X G C3n C4u C4e C4h fun _ _ _ _ _ _ us hl => match us, hl with | [_, _], _ => rfl
 have D_over := G0 (ps := ["context", "one", "other"]) (st := C9v) X G V0j U6m U5c U3s fun _ _ _ _ _ _ us hl => match us, hl with | [_, _, _], _ => rfl
 have C6v := G0 (ps := ["context", "one", "other"]) (st := A0t) X G B5f B2c B4j B3a fun _ _ _ _ _ _ us hl => match us, hl with | [_, _, _], _ => rfl
 have J7y := G0 (ps := ["context", "one", "other"]) (st := A7x) X G D3h D2h D4u D1j fun _ _ _ _ _ _ us hl => match us, hl with | [_, _, _], _ => rfl
 have G8h := G0 (ps := ["one", "other"]) (st := C6p) X G U9j U3d U9f U3q fun _ _ _ _ _ _ us hl => match us, hl with | [_, _], _ => rfl
 have V0s := G0 (ps := ["context", "one", "other", "ideal"]) (st := C6m) X G V1m U3a U9k V1k fun _ _ _ _ _ _ us hl => match us, hl with | [_, _, _, _], _ => rfl
 have B2e := G0 (ps := ["one", "other"]) (st := Z8) X G B3v B2w B4a B3w fun _ _ _ _ _ _ us hl => match us, hl with | [_, _], _ => rfl
 have J2s := G0 (ps := ["name"]) (st := B1w) X G J2f J3u G9a G6p fun _ _ _ _ _ _ us hl => match us, hl with | [_], _ => rfl
 have D_bounded := G0 (ps := ["thing", "least", "most"]) (st := A4x) X G C5j C4f C2n C3f fun _ _ _ _ _ _ us hl => match us, hl with | [_, _, _], _ => rfl
 have V5d := G0 (ps := ["names"]) (st := B7m) X G J0h J2v J1g J2w fun _ _ _ _ _ _ us hl => match us, hl with | [_], _ => rfl
 have V4p := G0 (ps := ["names"]) (st := B7f) X G G7r J1f G5r G4j fun _ _ _ _ _ _ us hl => match us, hl with | [_], _ => rfl
 have D_root := G0 (ps := ["context", "one"]) (st := C9u) X G U6d U4a U3t U4q fun _ _ _ _ _ _ us hl => match us, hl with | [_, _], _ => rfl
 have V4y := G0 (ps := ["context", "one", "count"]) (st := B7q) X G G4s G8f J0s J2m fun _ _ _ _ _ _ us hl => match us, hl with | [_, _, _], _ => rfl
 have Z5q := G0 (ps := ["context", "sign", "count"]) (st := C7q) X G D4q D2b D3b D2g fun _ _ _ _ _ _ us hl => match us, hl with | [_, _, _], _ => rfl
 have A0fw := G0 (ps := ["context", "sign", "power", "count"]) (st := A0v) X G U1y U8m V1e V0m fun _ _ _ _ _ _ us hl => match us, hl with | [_, _, _, _], _ => rfl
 have Z3e := G0 (ps := ["_law_script", "_law_k"]) (st := C9j) X G U1x V2g U2c U2q fun _ _ _ _ _ _ us hl => match us, hl with | [_, _], _ => rfl
 have C7x := G0 (ps := ["_law_cell", "_law_k"]) (st := A7r) X G G3a G3e J3f J1h fun _ _ _ _ _ _ us hl => match us, hl with | [_, _], _ => rfl
 have B9v := G0 (ps := ["_law_power_here"]) (st := B0y) X G U8u V2c U9w U6v fun _ _ _ _ _ _ us hl => match us, hl with | [_], _ => rfl
 have Y9r := G0 (ps := ["_law_cell", "_law_most"]) (st := C9e) X G V0u U7z V0c V0y fun _ _ _ _ _ _ us hl => match us, hl with | [_, _], _ => rfl
 have J6z := G0 (ps := ["_law_cell"]) (st := A8d) X G D4f D3n D2f D3w fun _ _ _ _ _ _ us hl => match us, hl with | [_], _ => rfl
 have Z4p := G0 (ps := ["_law_frame_here"]) (st := C8f) X G U2n U6e U9e V1d fun _ _ _ _ _ _ us hl => match us, hl with | [_], _ => rfl
 have J7p := G0 (ps := ["_law_cell", "_law_most"]) (st := A7z) X G D4n D0m D4k D0p fun _ _ _ _ _ _ us hl => match us, hl with | [_, _], _ => rfl
 have B5d := G0 (ps := ["_law_figures_here"]) (st := A2j) X G D3p D1q D4h D4c fun _ _ _ _ _ _ us hl => match us, hl with | [_], _ => rfl
 have J6m := G0 (ps := ["_law_number"]) (st := A7s) X G D2p D1y D1g D0v fun _ _ _ _ _ _ us hl => match us, hl with | [_], _ => rfl
 have A0dh := G0 (ps := ["_law_value", "_law_power_here"]) (st := J3z) X G Y9j Z4d Z4c Z1w fun _ _ _ _ _ _ us hl => match us, hl with | [_, _], _ => rfl
 have V5m := G0 (ps := ["_law_value"]) (st := B7v) X G G6b J0m J1a G8w fun _ _ _ _ _ _ us hl => match us, hl with | [_], _ => rfl
 have V4u := G0 (ps := ["_law_way", "_law_sign", "_law_last", "_law_part"]) (st := B7x) X G J1j G5n G3j G3x fun _ _ _ _ _ _ us hl => match us, hl with | [_, _, _, _], _ => rfl
 have J6p := G0 (ps := ["_law_room", "_law_way", "_law_most", "_law_sign"]) (st := A8a) X G D3j D3q D1n D1e fun _ _ _ _ _ _ us hl => match us, hl with | [_, _, _, _], _ => rfl
 have A2c := G0 (ps := ["_law_frame_here", "_law_sign", "_law_value", "_law_ideal"]) (st := Y7) X G B9k B9c B9n B9e fun _ _ _ _ _ _ us hl => match us, hl with | [_, _, _, _], _ => rfl
 have A4f := G0 (ps := ["_law_frame_here", "_law_sign", "_law_ideal"]) (st := A0f) X G C5b C3a C2p C5y fun _ _ _ _ _ _ us hl => match us, hl with | [_, _, _], _ => rfl
 have B6e := G0 (ps := []) (st := A4h) X G G8a J0b J1b G3c fun _ _ _ _ _ _ us hl => match us, hl with | [], _ => rfl
 have D1x := G0 (ps := ["_law_sign"]) (st := A5k) X G D3y D1b D0w D1s fun _ _ _ _ _ _ us hl => match us, hl with | [_], _ => rfl
 have G6c := G0 (ps := ["_law_frame_here", "_law_one", "_law_other"]) (st := B1r) X G J0z G5x G6y G3y fun _ _ _ _ _ _ us hl => match us, hl with | [_, _, _], _ => rfl
 have C4w := G0 (ps := ["_law_one", "_law_other"]) (st := A2t) X G C4r C3c C2m C2b fun _ _ _ _ _ _ us hl => match us, hl with | [_, _], _ => rfl
 have C0y := G0 (ps := ["_law_frame_here", "_law_one", "_law_other"]) (st := A0c) X G B0c A9w A9z B0r fun _ _ _ _ _ _ us hl => match us, hl with | [_, _, _], _ => rfl
 have V4x := G0 (ps := ["_law_frame_here", "_law_one", "_law_other"]) (st := B7w) X G G5j G5y G3h G4f fun _ _ _ _ _ _ us hl => match us, hl with | [_, _, _], _ => rfl
 have V5n := G0 (ps := ["_law_frame_here", "_law_one"]) (st := B7p) X G G4h J0a J1q G6x fun _ _ _ _ _ _ us hl => match us, hl with | [_, _], _ => rfl
 have G0v := G0 (ps := ["_law_number", "_law_count_here"]) (st := A4g) X G C2q C3r C2h C3y fun _ _ _ _ _ _ us hl => match us, hl with | [_, _], _ => rfl
 have J8p := G0 (ps := ["_law_frame_here", "_law_one", "_law_count_here"]) (st := A7v) X G D4j D3f D3d D4g fun _ _ _ _ _ _ us hl => match us, hl with | [_, _, _], _ => rfl
 have Z4r := G0 (ps := ["_law_frame_here", "_law_way", "_law_parts", "_law_count_here"]) (st := C9t) X G U5t U4p U9x U4z fun _ _ _ _ _ _ us hl => match us, hl with | [_, _, _, _], _ => rfl
 have V5r := G0 (ps := ["_law_context_here", "_law_way", "_law_numbers", "_law_count_here"]) (st := B7j) X G G4e G2s J3b J1s fun _ _ _ _ _ _ us hl => match us, hl with | [_, _, _, _], _ => rfl
 have V5h := G0 (ps := ["_law_parts", "_law_more"]) (st := B7t) X G G3n J3w G9z J3a fun _ _ _ _ _ _ us hl => match us, hl with | [_, _], _ => rfl
 have A1bz := G0 (ps := ["_law_script"]) (st := G1q) X G V4n Z1x A0ax A0ff fun _ _ _ _ _ _ us hl => match us, hl with | [_], _ => rfl
 have O : Own mg := ⟨mg_none_of X G A9a, mg_none_of X G Z2q, mg_none_of X G U7e, mg_none_of X G A0bs, mg_none_of X G U5r, mg_none_of X G G6e, mg_none_of X G U7g, mg_none_of X G Z9d, mg_none_of X G G4w, mg_none_of X G Z8d, mg_none_of X G Z7v, mg_none_of X G Z0q, mg_none_of X G Y8q, mg_none_of X G Z7k, mg_none_of X G A0ce, mg_none_of X G V1v, mg_none_of X G B2j, mg_none_of X G B8j, mg_none_of X G Z3v, mg_none_of X G D1c, mg_none_of X G D4s, mg_none_of X G A0bj, mg_none_of X G A9k⟩
 have T : Kit K := ⟨B9s, B4p, B8z, B5e, A9e, B3e, B4c, A8q, B4m, A8m, A6k, A8n, B8k, B2q, B8t, B5a, A8s, B2p, B2n, A9b, B3z, A9q, A6p, B0u, B0g, A6m, A9p, A6h, A5e, A6j, B2s, B0j, B5c, A9r, A6n, A8y, A3j, A2d, A3h, A2g, A1f, A2e⟩
 have A1bx : Cls K W0 := ⟨Z2b, Z5j, Z9x, Z6p⟩
 have A1bn : Mk0 K W0 := ⟨Z5z, Y8r, Z0c⟩
 have F_name_W0 := U3 (st := sN0) C5n C3e B5z
 have V8g := F_name_W0.binds (ps := ["self"]) fun _ _ _ _ _ _ us hl => match us, hl with | [_], _ => rfl
 have U1u : Y5 K W0 "name" A7m := ⟨C4p, C5k, B5z⟩
 have WC0 : C7f K mg "Down" W0 CW := ⟨mg_of X G a_W0, A1bx, A1bn, Z2z, sn, tk, A0ed, Z9w⟩
 have A1bp : Cls K W1 := ⟨A0fe, A0dr, A0bk, A0en⟩
 have A1as : Mk0 K W1 := ⟨Z0s, A0aw, A0ad⟩
 have F_name_W1 := U3 (st := sN1) C5h C3k B6c
 have Y0t := F_name_W1.binds (ps := ["self"]) fun _ _ _ _ _ _ us hl => match us, hl with | [_], _ => rfl
 have U3v : Y5 K W1 "name" A7n := ⟨C5g, C3x, B6c⟩
 have WC1 : C7f K mg "Up" W1 CW := ⟨mg_of X G a_W1, A1bp, A1as, Z0m, sn, tk, Z8b, Z1u⟩
 have A1am : Cls K W2 := ⟨A0ca, Z5d, A0be, Z5x⟩
 have A1ag : Mk0 K W2 := ⟨Z4s, Z2t, Z7q⟩
 have F_name_W2 := U3 (st := sN2) C6c C3h B6f
 have Y0h := F_name_W2.binds (ps := ["self"]) fun _ _ _ _ _ _ us hl => match us, hl with | [_], _ => rfl
 have U3p : Y5 K W2 "name" A7d := ⟨C4b, C5q, B6f⟩
 have WC2 : C7f K mg "Floor" W2 CW := ⟨mg_of X G a_W2, A1am, A1ag, Y8p, sn, tk, Y9f, A0ex⟩
 have A1aw : Cls K W3 := ⟨A0dd, A0dz, Z4y, Z6v⟩
 have A1az : Mk0 K W3 := ⟨Z9j, A0cg, A0bc⟩
 have F_name_W3 := U3 (st := sN3) C2e C2u B6j
 have Y0u := F_name_W3.binds (ps := ["self"]) fun _ _ _ _ _ _ us hl => match us, hl with | [_], _ => rfl
 have U8d : Y5 K W3 "name" A7g := ⟨C6a, C2j, B6j⟩
 have WC3 : C7f K mg "Ceiling" W3 CW := ⟨mg_of X G a_W3, A1aw, A1az, Z1j, sn, tk, A0ak, Z6e⟩
 have A1an : Cls K W4 := ⟨Z2f, Z1b, A0bw, A0ck⟩
 have A1ap : Mk0 K W4 := ⟨Z6x, Z1s, Y9k⟩
 have F_name_W4 := U3 (st := sN4) C2t C4d B6g
 have Y0w := F_name_W4.binds (ps := ["self"]) fun _ _ _ _ _ _ us hl => match us, hl with | [_], _ => rfl
 have U9t : Y5 K W4 "name" A7e := ⟨C4m, C2c, B6g⟩
 have WC4 : C7f K mg "HalfUp" W4 CW := ⟨mg_of X G a_W4, A1an, A1ap, Z8k, sn, tk, A0ek, Z7t⟩
 have A1bs : Cls K W5 := ⟨Z6f, Z4x, Z5u, Y9n⟩
 have A1ak : Mk0 K W5 := ⟨Z4v, Z0f, Y8v⟩
 have F_name_W5 := U3 (st := sN5) C5w C2g B6a
 have Y3v := F_name_W5.binds (ps := ["self"]) fun _ _ _ _ _ _ us hl => match us, hl with | [_], _ => rfl
 have U9n : Y5 K W5 "name" A7k := ⟨C4v, C4k, B6a⟩
 have WC5 : C7f K mg "HalfDown" W5 CW := ⟨mg_of X G a_W5, A1bs, A1ak, A0av, sn, tk, A0bd, Z7e⟩
 have A1bm : Cls K W6 := ⟨Y9v, Z8r, Z0e, Y8y⟩
 have A1at : Mk0 K W6 := ⟨Z7u, Z8w, A0cv⟩
 have F_name_W6 := U3 (st := sN6) C3s C2f B5y
 have Y0j := F_name_W6.binds (ps := ["self"]) fun _ _ _ _ _ _ us hl => match us, hl with | [_], _ => rfl
 have U2r : Y5 K W6 "name" A7h := ⟨C4n, C2x, B5y⟩
 have WC6 : C7f K mg "HalfEven" W6 CW := ⟨mg_of X G a_W6, A1bm, A1at, A0fd, sn, tk, A0am, Z5h⟩
 have A1bt : Cls K W7 := ⟨A0eq, A0ac, Z3r, Z9z⟩
 have A1af : Mk0 K W7 := ⟨Z2m, Z6g, A0er⟩
 have F_name_W7 := U3 (st := sN7) C2d C3z B6d
 have V8d := F_name_W7.binds (ps := ["self"]) fun _ _ _ _ _ _ us hl => match us, hl with | [_], _ => rfl
 have V0h : Y5 K W7 "name" A7f := ⟨C5u, C3m, B6d⟩
 have WC7 : C7f K mg "FiveUp" W7 CW := ⟨mg_of X G a_W7, A1bt, A1af, A0cz, sn, tk, Z5n, A0bg⟩
 let cw : Wy -> Addr := fun y => match y with | .down => W0 | .up => W1 | .floor => W2 | .ceiling => W3 | .halfUp => W4 | .halfDown => W5 | .halfEven => W6 | .fiveUp => W7
 have W : ∀ y : Wy, C7f K mg y.cls (cw y) CW := fun y => match y with | .down => WC0 | .up => WC1 | .floor => WC2 | .ceiling => WC3 | .halfUp => WC4 | .halfDown => WC5 | .halfEven => WC6 | .fiveUp => WC7
 have A1bb : Cls K CN := ⟨A0dj, Z2a, A0dk, Z6n⟩
 have FI_CN := U3 (st := D9z) A0bq A0dy A0bv
 have A1ba := FI_CN.binds (ps := ["self", "kind", "sign", "figures", "power"]) fun _ _ _ _ _ _ us hl => match us, hl with | [_, _, _, _, _], _ => rfl
 have M_CN : Mk K CN G0n := ⟨Z9y, Z2x, Y8s, Y9s⟩
 have N : Num K mg CN := ⟨mg_of X G a_CN, A1bb, C3g, C4j, A8w, B8q, Z4e, sn, tk, A0dt, G6g⟩
 have F_goes_up_W0 := U3 (st := sU0) B0a A8z A3y
 have G3p := F_goes_up_W0.binds (ps := ["self", "sign", "last", "part"]) fun _ _ _ _ _ _ us hl => match us, hl with | [_, _, _, _], _ => rfl
 have D7k : Y5 K W0 "goes_up" A1h := ⟨A9f, B0v, A3y⟩
 have F_to_end_W0 := U3 (st := sT0) B3h B2h A5u
 have J7w := F_to_end_W0.binds (ps := ["self", "sign"]) fun _ _ _ _ _ _ us hl => match us, hl with | [_, _], _ => rfl
 have J0d : Y5 K W0 "to_end" A2x := ⟨B3r, B2u, A5u⟩
 have F_goes_up_W1 := U3 (st := sU1) A9g A8x A3t
 have G5t := F_goes_up_W1.binds (ps := ["self", "sign", "last", "part"]) fun _ _ _ _ _ _ us hl => match us, hl with | [_, _, _, _], _ => rfl
 have D7g : Y5 K W1 "goes_up" A1m := ⟨B0s, A9u, A3t⟩
 have F_to_end_W1 := U3 (st := sT1) B2z B3j A5s
 have J7u := F_to_end_W1.binds (ps := ["self", "sign"]) fun _ _ _ _ _ _ us hl => match us, hl with | [_, _], _ => rfl
 have G9j : Y5 K W1 "to_end" A2y := ⟨B4x, B2b, A5s⟩
 have F_goes_up_W2 := U3 (st := sU2) B0h B0w A3s
 have G2x := F_goes_up_W2.binds (ps := ["self", "sign", "last", "part"]) fun _ _ _ _ _ _ us hl => match us, hl with | [_, _, _, _], _ => rfl
 have D7n : Y5 K W2 "goes_up" A1e := ⟨B0m, B0k, A3s⟩
 have F_to_end_W2 := U3 (st := sT2) B4h B2f A5x
 have J7k := F_to_end_W2.binds (ps := ["self", "sign"]) fun _ _ _ _ _ _ us hl => match us, hl with | [_, _], _ => rfl
 have G9y : Y5 K W2 "to_end" A2z := ⟨B4q, B4s, A5x⟩
 have F_goes_up_W3 := U3 (st := sU3) A8v B0x A3x
 have G3z := F_goes_up_W3.binds (ps := ["self", "sign", "last", "part"]) fun _ _ _ _ _ _ us hl => match us, hl with | [_, _, _, _], _ => rfl
 have D5z : Y5 K W3 "goes_up" A1j := ⟨A9v, A9n, A3x⟩
 have F_to_end_W3 := U3 (st := sT3) B5h B2d A5v
 have J5r := F_to_end_W3.binds (ps := ["self", "sign"]) fun _ _ _ _ _ _ us hl => match us, hl with | [_, _], _ => rfl
 have J2a : Y5 K W3 "to_end" A3c := ⟨B2a, B4e, A5v⟩
 have F_goes_up_W4 := U3 (st := sU4) B0f A8k A3v
 have J2t := F_goes_up_W4.binds (ps := ["self", "sign", "last", "part"]) fun _ _ _ _ _ _ us hl => match us, hl with | [_, _, _, _], _ => rfl
 have D8a : Y5 K W4 "goes_up" A1k := ⟨A9j, A9t, A3v⟩
 have F_to_end_W4 := U3 (st := sT4) B4w B4u A5t
 have J7g := F_to_end_W4.binds (ps := ["self", "sign"]) fun _ _ _ _ _ _ us hl => match us, hl with | [_, _], _ => rfl
 have J0x : Y5 K W4 "to_end" A2w := ⟨B2v, B2x, A5t⟩
 have F_goes_up_W5 := U3 (st := sU5) A9d A9y A3w
 have G2w := F_goes_up_W5.binds (ps := ["self", "sign", "last", "part"]) fun _ _ _ _ _ _ us hl => match us, hl with | [_, _, _, _], _ => rfl
 have D7y : Y5 K W5 "goes_up" A1g := ⟨A9h, B0q, A3w⟩
 have F_to_end_W5 := U3 (st := sT5) B2r B3x A5q
 have J9m := F_to_end_W5.binds (ps := ["self", "sign"]) fun _ _ _ _ _ _ us hl => match us, hl with | [_, _], _ => rfl
 have G3v : Y5 K W5 "to_end" A3e := ⟨B4n, B3s, A5q⟩
 have F_goes_up_W6 := U3 (st := sU6) B0d B0n A3z
 have J3y := F_goes_up_W6.binds (ps := ["self", "sign", "last", "part"]) fun _ _ _ _ _ _ us hl => match us, hl with | [_, _, _, _], _ => rfl
 have D6q : Y5 K W6 "goes_up" A1p := ⟨A9s, B0t, A3z⟩
 have F_to_end_W6 := U3 (st := sT6) B4z B3p A5y
 have J6y := F_to_end_W6.binds (ps := ["self", "sign"]) fun _ _ _ _ _ _ us hl => match us, hl with | [_, _], _ => rfl
 have J1w : Y5 K W6 "to_end" A3a := ⟨B4r, B2y, A5y⟩
 have F_goes_up_W7 := U3 (st := sU7) B0p A8r A3u
 have G3w := F_goes_up_W7.binds (ps := ["self", "sign", "last", "part"]) fun _ _ _ _ _ _ us hl => match us, hl with | [_, _, _, _], _ => rfl
 have D7s : Y5 K W7 "goes_up" A1n := ⟨A9x, A8t, A3u⟩
 have F_to_end_W7 := U3 (st := sT7) B5b B2g A5r
 have J8z := F_to_end_W7.binds (ps := ["self", "sign"]) fun _ _ _ _ _ _ us hl => match us, hl with | [_, _], _ => rfl
 have J1r : Y5 K W7 "to_end" A3b := ⟨B4t, B3n, A5r⟩
 have A1bh : Cls K CC := ⟨A0cp, Z8x, A0fu, A0da⟩
 have A1bg := G1t (st := A1d) A0ep A0ar Z1k
 have M_CC : Mk K CC G0g := ⟨Z3g, A0af, Z3y, Z3t⟩
 have F_flags_CC := U3 (st := A4e) B9p B9m A8u
 have U6a := F_flags_CC.binds (ps := ["self"]) fun _ _ _ _ _ _ us hl => match us, hl with | [_], _ => rfl
 have J9a : Y5 K CC "flags" A5d := ⟨B9t, B9g, A8u⟩
 have F_lowest_CC := U3 (st := B5q) B3g B3u A5z
 have J7s := F_lowest_CC.binds (ps := ["self"]) fun _ _ _ _ _ _ us hl => match us, hl with | [_], _ => rfl
 have G3g : Y5 K CC "lowest" A2v := ⟨B4d, B3k, A5z⟩
 have F_way_CC := U3 (st := B5s) D3e D2w C0v
 have Z3z := F_way_CC.binds (ps := ["self"]) fun _ _ _ _ _ _ us hl => match us, hl with | [_], _ => rfl
 have Y3r : Y5 K CC "way" B3f := ⟨D2u, D2s, C0v⟩
 have F_raised_CC := U3 (st := A1u) B3t B4k A6a
 have J7a := F_raised_CC.binds (ps := ["self", "names"]) fun _ _ _ _ _ _ us hl => match us, hl with | [_, _], _ => rfl
 have J2r : Y5 K CC "raised" A3d := ⟨B4f, B2k, A6a⟩
 have F_clear_CC := U3 (st := A4d) B8h B8p A8j
 have U6x := F_clear_CC.binds (ps := ["self"]) fun _ _ _ _ _ _ us hl => match us, hl with | [_], _ => rfl
 have J5q : Y5 K CC "clear" A5c := ⟨B8g, B9a, A8j⟩
 have A1av : Cls K CQ := ⟨Z3d, Z5b, Z8p, Z4t⟩
 have A1ae := G1t (st := A8h) A0ae Z2c Y9g
 have M_CQ : Mk K CQ G0q := ⟨A0ab, Z6d, A0aa, A0ct⟩
 have F_first_CQ := U3 (st := A4y) B8n B9r B0e
 have U9a := F_first_CQ.binds (ps := ["self"]) fun _ _ _ _ _ _ us hl => match us, hl with | [_], _ => rfl
 have J6e : Y5 K CQ "first" A2f := ⟨B9b, B9f, B0e⟩
 have F_at_CQ := U3 (st := C9k) J3r G3d C7t
 have V5p := F_at_CQ.binds (ps := ["self", "power"]) fun _ _ _ _ _ _ us hl => match us, hl with | [_, _], _ => rfl
 have J8j : Y5 K CQ "at" B6k := ⟨G3r, J1z, C7t⟩
 have xk4 : ExcK K C4 := ⟨xga4, xgh4, xca4, sn, tk, xob4, xbe4, by rw [xcl4]; rfl⟩
 have nkT : nsOkIn K NT = true := by unfold nsOkIn; rw [lN]; exact alN
 have tlT : tailIn K V3t bmT = true := by
   have z := q1
   unfold excIn at z
   rw [lT1] at z
   simp only [excClassObj, Bool.and_eq_true] at z
   exact z.1.1.2
 have F_iT := U3 (st := B5k) l_iT c_iT k_iT
 have b_iT := F_iT.binds (ps := ["self", "signal"]) fun _ _ _ _ _ _ us hl => match us, hl with | [_, _], _ => rfl
 have XI4 : V8b K C4 fX := ⟨⟨_, _, _, _, _, _, _, _, _, _, _, _, _, _, _, lT, nkT, niT, tlT⟩, ⟨_, l_iT, fcT⟩, saT, xob4⟩
 have SG : SigK K mg aS := ⟨mg_of X G a_S, ⟨_, lS, rfl⟩, fun H => .inr ⟨_, _, _, lS, rfl, rfl, D7 (by show 7 <= 1000; decide), .cons ⟨_, rfl⟩ (.cons ⟨_, rfl⟩ (.cons ⟨_, rfl⟩ (.cons ⟨_, rfl⟩ (.cons ⟨_, rfl⟩ (.cons ⟨_, rfl⟩ (.cons ⟨_, rfl⟩ (.nil)))))))⟩⟩
 have A1bq : Cls K RO := ⟨Z5t, Y9h, A0fr, A0fp⟩
 have A1bw := G1t (st := A7p) Z9t Z5e Z9r
 have M_RO : Mk K RO G0k := ⟨A0cs, Z2s, Z3b, A0eh⟩
 have F_first_RO := U3 (st := A4j) B9j B8f A9c
 have U4n := F_first_RO.binds (ps := ["self"]) fun _ _ _ _ _ _ us hl => match us, hl with | [_], _ => rfl
 have J6j : Y5 K RO "first" A2b := ⟨B8v, B8r, A9c⟩
 have F_at_RO := U3 (st := C9a) G7u G7h C7w
 have A0ny := F_at_RO.binds (ps := ["self", "power"]) fun _ _ _ _ _ _ us hl => match us, hl with | [_, _], _ => rfl
 have Z8f : Y5 K RO "at" B6b := ⟨G8e, J2n, C7w⟩
 have C : D5f K mg CC := ⟨mg_of X G a_CC, A1bh, C3t, C5t, B9q, C5a, B8m, B0b⟩
 have B1 : Err K mg "BadContext" C1 := ⟨mg_of X G a_C1, q1⟩
 have B2 : Err K mg "BadNumber" C2 := ⟨mg_of X G a_C2, q2⟩
 have B3 : Err K mg "BadCount" C3 := ⟨mg_of X G a_C3, q3⟩
 have R : G2r K mg CQ CE := ⟨mg_of X G a_CQ, mg_of X G a_CE, A1av, D2m, B4y, B8x, A0es, sn, tk, Z5a, Z1h⟩
 have b4 := C9p (fd := fnOf "__init__" "Context.__init__" (B9 A1d) (B8 A1d) (A2 A1d) (.ref Y9w) Z2h Y9x Z1c Z6q V2e A0fa) (ps := ["self", "room", "way", "least", "most"]) (ds := []) rfl Z8t rfl fun us hl => by obtain ⟨a, b, c, d, e, rfl⟩ := len5 (U1g hl); exact ⟨_, rfl, rfl⟩
 refine ⟨fnOf "law" "law" (B9 G1q) (B8 G1q) (A2 G1q) .none Z6w Z9k A0cc Z9n U3y A0cb, fun s v => .of_eq rfl, fun base _ _ => ?_⟩
 have WN : ∀ y : Wy, WayN l.prog w K mg base (cw y) y.name := fun y => match y with | .down => ⟨_, _, U1u, A0ze F_name_W0, V8g⟩ | .up => ⟨_, _, U3v, A0zb F_name_W1, Y0t⟩ | .floor => ⟨_, _, U3p, A0zw F_name_W2, Y0h⟩ | .ceiling => ⟨_, _, U8d, A0ye F_name_W3, Y0u⟩ | .halfUp => ⟨_, _, U9t, A0xf F_name_W4, Y0w⟩ | .halfDown => ⟨_, _, U9n, A0xq F_name_W5, Y3v⟩ | .halfEven => ⟨_, _, U2r, A0zf F_name_W6, Y0j⟩ | .fiveUp => ⟨_, _, V0h, A0yy F_name_W7, V8d⟩
 have U : ∀ y : Wy, WayU l.prog w K mg base (cw y) y := fun y => match y with | .down => ⟨_, _, D7k, A0xw F_goes_up_W0, G3p⟩ | .up => ⟨_, _, D7g, A0ya F_goes_up_W1, G5t⟩ | .floor => ⟨_, _, D7n, A0xn F_goes_up_W2, G2x⟩ | .ceiling => ⟨_, _, D5z, A0yk F_goes_up_W3, G3z⟩ | .halfUp => ⟨_, _, D8a, A0zp F_goes_up_W4, J2t⟩ | .halfDown => ⟨_, _, D7y, A0xg F_goes_up_W5, G2w⟩ | .halfEven => ⟨_, _, D6q, A0yc F_goes_up_W6, J3y⟩ | .fiveUp => ⟨_, _, D7s, A0xd F_goes_up_W7, G3w⟩
 have E2 : ∀ y : Wy, WayE l.prog w K mg base (cw y) y := fun y => match y with | .down => ⟨_, _, J0d, A0xc F_to_end_W0, J7w⟩ | .up => ⟨_, _, G9j, A0zn F_to_end_W1, J7u⟩ | .floor => ⟨_, _, G9y, A0zm F_to_end_W2, J7k⟩ | .ceiling => ⟨_, _, J2a, A0zt F_to_end_W3, J5r⟩ | .halfUp => ⟨_, _, J0x, A0zu F_to_end_W4, J7g⟩ | .halfDown => ⟨_, _, G3v, A0xe F_to_end_W5, J9m⟩ | .halfEven => ⟨_, _, J1w, A0yp F_to_end_W6, J6y⟩ | .fiveUp => ⟨_, _, J1r, A0xj F_to_end_W7, J8z⟩
 have Gb := U1r (P := l.prog) (w := w) (base := base) D_bounded V5j O T B1
 have Gw := Y5v (P := l.prog) (w := w) (base := base) J2s O T B1 W
 have MC : A0ra l.prog w K mg base CC C1 G0g _ := ⟨M_CC, U0v A1bg D_bounded J2s Gb Gw C W WN⟩
 have MR : J5p l.prog w K mg base CQ G0q (fnOf "__init__" "Ratio.__init__" (B9 A8h) (B8 A8h) (A2 A8h) (.ref Z9g) A0ap Z3a A0ev Z5y U5n Z4g) (.int 0 A0rc) (fun us ws => match ws with | [a] => us ++ [a] | _ => []) (fun us ws => match ws with | [a] => us ++ [a] | _ => []) :=
   { m := M_CQ
     g := Y7c A1ae R
     b3 := C9p rfl J6d rfl fun us hl => by obtain ⟨a, b, c, d, rfl⟩ := len4 (U1g hl); exact ⟨_, rfl, rfl⟩
     b2 := C9p rfl J6d rfl fun us hl => by obtain ⟨a, b, c, rfl⟩ := len3 (U1g hl); exact ⟨_, rfl, rfl⟩
     r0 := ⟨_, rfl⟩
     kP := ⟨(fun s us ws XK hl => by
         rcases ws with _ | ⟨p, _ | ⟨q, t⟩⟩
         . cases hl
         . obtain ⟨a, b, c, rfl⟩ := len3 (U1g hl)
           exact binds_K XK rfl J6d rfl rfl rfl
         . cases hl), fun r z => match z with
       | .cons a .nil => r.append (.cons a .nil)
       | .nil => .nil
       | .cons _ (.cons _ _) => .nil⟩
     eP := fun _ _ _ _ => rfl }
 have M : C0n l.prog w K mg base CN G0n _ := ⟨M_CN, A0hy FI_CN N, A1ba⟩
 have Gn := Y8c (P := l.prog) (w := w) (base := base) V5d O T B1 SG
 have Go := Y4f (P := l.prog) (w := w) (base := base) V4p SG
 have GX := V7w (P := l.prog) (w := w) (mg := mg) (base := base) F_iT XI4 nsg4
 have MF : Has l.prog w K mg base CC "flags" 1 ["self"] (B8b CC) := ⟨_, _, J9a, J4v F_flags_CC C O, U6a⟩
 have ML : Has l.prog w K mg base CC "lowest" 1 ["self"] (C9n CC) := ⟨_, _, G3g, V7j F_lowest_CC C, J7s⟩
 have MW : Has l.prog w K mg base CC "way" 2 ["self"] (C8x CC cw) := ⟨_, _, Y3r, V6x F_way_CC J2s Gw C, Z3z⟩
 have ME : Has l.prog w K mg base CC "clear" 1 ["self"] (B8a CC) := ⟨_, _, J5q, J4n F_clear_CC C, U6x⟩
 have MD : Has l.prog w K mg base CC "raised" 3 ["self", "names"] (C8p K CC C1 C4) := ⟨_, _, J2r, V5v F_raised_CC V5d Gn V4p Go C (mg_of X G a_C4) XI4 GX b_iT, J7a⟩
 have CM : B8c l.prog w K mg base CC C1 C4 CW cw := ⟨C, MW, ML, MD, W, U, E2⟩
 have Gneedn := J4q (P := l.prog) (w := w) (base := base) B6h O T B2 N
 have Gtold := A0ht (P := l.prog) (w := w) (base := base) D_told B6h O T B2 N
 have Gplain := Y5g (P := l.prog) (w := w) (base := base) D_plain G0z V5j O T B2 N M
 have Gend := A0rn (P := l.prog) (w := w) (base := base) D_end G0z V5j O T B2 N M
 have Gnothing := U0d (P := l.prog) (w := w) (base := base) D_nothing N M
 have Glead := A0jv (P := l.prog) (w := w) (base := base) Y8w O N
 have Gto := Y6s (P := l.prog) (w := w) (base := base) A2m A5w (C0c A5w)
 have Gpart := V6j (P := l.prog) (w := w) (base := base) D3z
 have Gwl := Y7z (P := l.prog) (w := w) (base := base) C7v A2m Gto
 have Gat := A0sn (P := l.prog) (w := w) (base := base) F_at_CQ A2m Gto D3z Gpart R O
 have RM : RatM l.prog w K mg base CQ A2f B6k _ _ := ⟨J6e, V7b F_first_CQ C7v Gwl J8j Gat V5p R, U9a, J8j, Gat, V5p⟩
 have Gnea := U0e (P := l.prog) (w := w) (base := base) C2k N M
 have Gnei := G2a (P := l.prog) (w := w) (base := base) D_neighbour CM
 have Gwit := V6q (P := l.prog) (w := w) (base := base) D2d A2m Gto CM N M
 have Gbey := V7e (P := l.prog) (w := w) (base := base) D2y Y8w Glead CM N
 have Gnin := Y6f (P := l.prog) (w := w) (base := base) D_nines A2m Gto CM N M
 have Gbur := Y6j (P := l.prog) (w := w) (base := base) D_burst D_nines Gnin D_end Gend CM
 have Gsr := J9u (P := l.prog) (w := w) (base := base) C5m
 have Gsl := U1c (P := l.prog) (w := w) (base := base) C5r CM
 have Gnou := V5u (P := l.prog) (w := w) (base := base) D_nought CM N M O
 have RQ : V7z K mg RO CE := ⟨mg_of X G a_RO, mg_of X G a_CE, A1bq, D4z, B9d, Z0w, sn, tk, A0ec, A0cx⟩
 have MQ : A0qz l.prog w K mg base RO G0k (fnOf "__init__" "Root.__init__" (B9 A7p) (B8 A7p) (A2 A7p) (.ref Z4f) A0ea Z9p A0as Z3f V1x Z8h) (.int 0 A0rd) (fun us ws => match ws with | [a] => us ++ [a] | _ => []) (fun us ws => match ws with | [a] => us ++ [a] | _ => []) :=
   { m := M_RO
     g := Y5y A1bw RQ
     b3 := C9p rfl J9b rfl fun us hl => by obtain ⟨a, b, c, rfl⟩ := len3 (U1g hl); exact ⟨_, rfl, rfl⟩
     b2 := C9p rfl J9b rfl fun us hl => by obtain ⟨a, b, rfl⟩ := len2 (U1g hl); exact ⟨_, rfl, rfl⟩
     r0 := ⟨_, rfl⟩
     kP := ⟨(fun s us ws XK hl => by
         rcases ws with _ | ⟨p, _ | ⟨q, t⟩⟩
         . cases hl
         . obtain ⟨a, b, rfl⟩ := len2 (U1g hl)
           exact binds_K XK rfl J9b rfl rfl rfl
         . cases hl), fun r z => match z with
       | .cons a .nil => r.append (.cons a .nil)
       | .nil => .nil
       | .cons _ (.cons _ _) => .nil⟩
     eP := fun _ _ _ => rfl }
 have QM : RooM l.prog w K mg base RO A2b B6b _ _ := ⟨J6j, V7f F_first_RO C7v Gwl RQ, U4n, Z8f, A0sj F_at_RO A2m Gto D3z Gpart V5a (Y5t V5a A2m Gto C7v Gwl) RQ O, A0ny⟩
 have XR := ratM RM R
 have XQ := rooM QM RQ
 have GsR := C6s (CE := CE) (P := l.prog) (w := w) (base := base) D_settled C1a (C8s (CE := CE) C1a CM XR O) C2k Gnea D_neighbour Gnei D2d Gwit D2y Gbey D_burst Gbur C5m Gsr C5r Gsl CM XR N
 have GsQ := C6s (CE := CE) (P := l.prog) (w := w) (base := base) D_settled C1a (C8s (CE := CE) C1a CM XQ O) C2k Gnea D_neighbour Gnei D2d Gwit D2y Gbey D_burst Gbur C5m Gsr C5r Gsl CM XQ N
 have Gset : A8 l.prog w K mg base (CX1 l.prog w) 6 A7j _ ["context", "sign", "exact", "ideal"] (A4b CN CC C4 CQ) := A8.weak (fun _ _ _ _ h => J4z h) GsR
 have Gset2 : A8 l.prog w K mg base (CX1 l.prog w) 6 A7j _ ["context", "sign", "exact", "ideal"] (C8j CN CC C4 CQ RO) := A8.both GsR GsQ
 have Gneedns := V7a (P := l.prog) (w := w) (base := base) A8p B6h Gneedn
 have Gsomek := Y6v (P := l.prog) (w := w) (base := base) C7u O N
 have Gun := V6s (P := l.prog) (w := w) (base := base) C0r N
 have Gvo := A0fz (P := l.prog) (w := w) (base := base) D_void D_nothing Gnothing CM
 have Gsp := Y6d (P := l.prog) (w := w) (base := base) J1x D_end Gend CM
 have Godd := A0hr (P := l.prog) (w := w) (base := base) V0s C0r Gun D_void Gvo D_end Gend D_nought Gnou J1x Gsp N
 have Gov := A0hc (P := l.prog) (w := w) (base := base) D_over A8p Gneedns C7u Gsomek G8h (V3m G8h N) V0s Godd C0r Gun D_nought Gnou D_settled Gset D_nothing Gnothing CM N MR R
 have Gwa := U1k (P := l.prog) (w := w) (base := base) C1z A2m Gto N
 have Gwp := G1j (P := l.prog) (w := w) (base := base) B2e C1z Gwa N O
 have Gwo := G1k (P := l.prog) (w := w) (base := base) C6v A8p Gneedns C7u Gsomek G8h (V3m G8h N) V0s Godd C0r Gun D_nought Gnou D_settled Gset D_nothing Gnothing D_void Gvo B2e Gwp A2m Gto CM N MR R O
 have Gro := V7y (CB := C1) (CW := CW) (cw := cw) (P := l.prog) (w := w) (base := base) D_rounded B6h Gneedn D_nought Gnou D_settled Gset MR R N
 have Gre := V6t (P := l.prog) (w := w) (base := base) J7y A8p Gneedns C7u Gsomek D_nothing Gnothing D_void Gvo D_rounded Gro B2e Gwp A2m Gto C1z Gwa CM N M O
 have Groot := A0gz (P := l.prog) (w := w) (base := base) D_root B6h Gneedn D_nothing Gnothing D_nought Gnou D_void Gvo D_settled Gset2 N MQ RQ
 have Gpow := A0rr (P := l.prog) (w := w) (base := base) (CQ := RO) V4y B6h Gneedn V4r (Y4w V4r V5j O T B3) D_nothing Gnothing Z5q A0fw (A0gh A0fw D_void Gvo D_nought Gnou J1x Gsp) A5w (C0c A5w) D_settled Gset N MR R O
 have Gcell := A0gb (P := l.prog) (w := w) (base := base) Z3e O
 have Gmix := Y6w (P := l.prog) (w := w) (base := base) C7x
 have Glten := A0gf (P := l.prog) (w := w) (base := base) B9v O
 have Glfig := A0hk (P := l.prog) (w := w) (base := base) Y9r C7x Gmix B9v Glten O
 have Glfr := V7t (P := l.prog) (w := w) (base := base) J6z
 have Glpl := V6h (P := l.prog) (w := w) (base := base) J7p C7x Gmix Y9r Glfig
 have Glcx := A0gm (P := l.prog) (w := w) (base := base) Z4p MC b4 C
 have Glco := V7g (P := l.prog) (w := w) (base := base) B5d
 have Glis := V7m (P := l.prog) (w := w) (base := base) J6m
 have Glat := A0sf (P := l.prog) (w := w) (base := base) A0dh B9v Glten J6m Glis O
 have Glle := Y8h (P := l.prog) (w := w) (base := base) V5m B5d Glco A0dh Glat
 have Glgo := Y7d (P := l.prog) (w := w) (base := base) V4u
 have Glbu := V5z (P := l.prog) (w := w) (base := base) J6p B9v Glten
 have Glno := U0n (P := l.prog) (w := w) (base := base) A4f O
 have Glse := J4u (P := l.prog) (w := w) (base := base) A2c V5m Glle A0dh Glat V4u Glgo B9v Glten B5d Glco J6p Glbu O
 have Glvo := Y8g (P := l.prog) (w := w) (base := base) B6e
 have Glsp := V7c (P := l.prog) (w := w) (base := base) D1x
 have Glov := Y4c (P := l.prog) (w := w) (base := base) G6c B6e Glvo D1x Glsp A4f Glno A2c Glse O
 have Glpa := U0u (P := l.prog) (w := w) (base := base) C4w B9v Glten O
 have Glwo := D5c (P := l.prog) (w := w) (base := base) C0y G6c Glov C4w Glpa A4f Glno B5d Glco B6e Glvo A2c Glse O
 have Glre := Y4m (P := l.prog) (w := w) (base := base) V4x C4w Glpa A4f Glno B5d Glco B6e Glvo A2c Glse O
 have Glro := Y5m (P := l.prog) (w := w) (base := base) V5n A4f Glno B6e Glvo A2c Glse
 have Glra := U0m (P := l.prog) (w := w) (base := base) G0v O
 have Glpo := V6m (P := l.prog) (w := w) (base := base) J8p G0v Glra D1x Glsp A4f Glno B6e Glvo A2c Glse O
 have Gldu := A0hm (P := l.prog) (w := w) (base := base) Z4r G6c Glov C0y Glwo V4x Glre V5n Glro J8p Glpo
 have Glto := Y5a (P := l.prog) (w := w) (base := base) V5r D_over Gov C6v Gwo J7y Gre D_root Groot V4y Gpow
 have Glbe := Y4k (P := l.prog) (w := w) (base := base) V5h B9v Glten O
 exact A0tp A1bz Z3e Gcell C7x Gmix J6z Glfr J7p Glpl Z4p Glcx Z4r Gldu V5r Glto V5h Glbe D_plain Gplain D_told Gtold C MF ME O
theorem walk {l : OpenLaw} {q : Program} {loose : List Str} {XP : (Str -> Option Value) -> Heap -> Prop} {YP : World -> Heap -> Prop} {d : DefRec} {K : Params -> Frag} (hn : l.most = some 63) (hdf : d.params.defaults = [])
   (hY : ∀ (w : World) (h : Heap), YP w h -> (K w.params).In h)
   (F : ∀ (w : World) (mg : Str -> Option Value) (fa : Addr) (h : Heap), (K w.params).In h -> h.Ns mainGlobals mg -> mg d.name = some (.ref fa) ->
     ∃ fd : FuncData, (∀ (s : Shared) (u : Value), BindsTo s fd ⟨[u], []⟩ [("_law_script", u)]) /\ ∀ base : Heap, (K w.params).In base -> base.Ns mainGlobals mg -> A8 l.prog w (K w.params) mg base (CX1 l.prog w) 10 fa fd ["_law_script"] ((V2p (K w.params)))) :
   WalkO q loose XP YP l.row.toRowW d [] (fun f vs => PySem.call f vs) :=
 L2.walk_of (n := 63) (k := 10) (x := "_law_script") (CX := fun w => CX1 l.prog w) (sp := fun w => (V2p (K w.params))) hn (by decide) hdf ⟨rfl, by decide, by decide⟩ hY F (fun _ _ a ns hl _ hS => ⟨a, ns, rfl, hl, hS, fun _ => rfl⟩) fun _ _ _ _ _ z => by
   obtain ⟨_, _, _, _, _, _, _, _, _, _, z, _⟩ := z
   exact z
end TR
open PySem PySem.W PyProof.Rows
set_option maxRecDepth 100000 in
set_option maxHeartbeats 0 in
theorem PySem.Challenge.cw_tenreckon_k35_whole_quotients_exactly_holds : PySem.Challenge.rw_tenreckon_k35_whole_quotients_exactly.Holds := by
 refine hd ?_
 k_fill
 refine TR.walk (l := PySem.Challenge.rw_tenreckon_k35_whole_quotients_exactly) rfl rfl (fun w h Y => PySem.W.kIn_of Y) ?F
 case F =>
   intro w mg fa h KX G hmg
   refine' TR.all_mk KX G hmg ?B2m ?B5g ?B3d ?B3m ?G8u ?J1y ?J2e ?J0v ?D0x ?D0y ?D4r ?D0r ?G8t ?G7m ?J3j ?G3m ?G5g ?J2x ?J0u ?G9v ?G5k ?G6d ?J2p ?G9k ?A0dg ?Z2j ?A0em ?A0dv ?C6g ?C3w ?C4z ?C3p ?U4d ?U6h ?U7d ?U3c ?V2b ?U4b ?V2a ?U1v ?J0c ?J0q ?G6u ?G3u ?B8s ?B9u ?B8y ?B8u ?G4v ?G9d ?G6s ?G5u ?D2z ?D4m ?D3v ?D2x ?C5x ?C2z ?C4c ?C2v ?Y9c ?A0ej ?Z6y ?Z2w ?C4a ?C3j ?C5v ?C5s ?G4q ?J0p ?G4k ?G8d ?C3u ?C6e ?C5d ?C3q ?D2r ?D2a ?D3x ?D4v ?C5z ?C4t ?C5c ?C4g ?B3c ?B3b ?B4b ?B3y ?D1d ?D3m ?D1h ?D1a ?D4d ?D2j ?D4t ?D3t ?G2z ?G6t ?J1t ?J0t ?G4d ?G6w ?G9w ?J3t ?C3b ?C3v ?C5e ?C6b ?C4q ?C2a ?C6h ?C2y ?D2t ?D4a ?D1z ?D0k ?U6w ?U5m ?U5a ?U8x ?J3d ?G5z ?J2g ?G4p ?C3n ?C4u ?C4e ?C4h ?V0j ?U6m ?U5c ?U3s ?B5f ?B2c ?B4j ?B3a ?D3h ?D2h ?D4u ?D1j ?U9j ?U3d ?U9f ?U3q ?V1m ?U3a ?U9k ?V1k ?B3v ?B2w ?B4a ?B3w ?J2f ?J3u ?G9a ?G6p ?C5j ?C4f ?C2n ?C3f ?J0h ?J2v ?J1g ?J2w ?G7r ?J1f ?G5r ?G4j ?U6d ?U4a ?U3t ?U4q ?G4s ?G8f ?J0s ?J2m ?D4q ?D2b ?D3b ?D2g ?U1y ?U8m ?V1e ?V0m ?U1x ?V2g ?U2c ?U2q ?G3a ?G3e ?J3f ?J1h ?U8u ?V2c ?U9w ?U6v ?V0u ?U7z ?V0c ?V0y ?D4f ?D3n ?D2f ?D3w ?U2n ?U6e ?U9e ?V1d ?D4n ?D0m ?D4k ?D0p ?D3p ?D1q ?D4h ?D4c ?D2p ?D1y ?D1g ?D0v ?Y9j ?Z4d ?Z4c ?Z1w ?G6b ?J0m ?J1a ?G8w ?J1j ?G5n ?G3j ?G3x ?D3j ?D3q ?D1n ?D1e ?B9k ?B9c ?B9n ?B9e ?C5b ?C3a ?C2p ?C5y ?G8a ?J0b ?J1b ?G3c ?D3y ?D1b ?D0w ?D1s ?J0z ?G5x ?G6y ?G3y ?C4r ?C3c ?C2m ?C2b ?B0c ?A9w ?A9z ?B0r ?G5j ?G5y ?G3h ?G4f ?G4h ?J0a ?J1q ?G6x ?C2q ?C3r ?C2h ?C3y ?D4j ?D3f ?D3d ?D4g ?U5t ?U4p ?U9x ?U4z ?G4e ?G2s ?J3b ?J1s ?G3n ?J3w ?G9z ?J3a ?V4n ?Z1x ?A0ax ?A0ff ?A9a ?Z2q ?U7e ?A0bs ?U5r ?G6e ?U7g ?Z9d ?G4w ?Z8d ?Z7v ?Z0q ?Y8q ?Z7k ?A0ce ?V1v ?B2j ?B8j ?Z3v ?D1c ?D4s ?A0bj ?A9k ?B9s ?B4p ?B8z ?B5e ?A9e ?B3e ?B4c ?A8q ?B4m ?A8m ?A6k ?A8n ?B8k ?B2q ?B8t ?B5a ?A8s ?B2p ?B2n ?A9b ?B3z ?A9q ?A6p ?B0u ?B0g ?A6m ?A9p ?A6h ?A5e ?A6j ?B2s ?B0j ?B5c ?A9r ?A6n ?A8y ?A3j ?A2d ?A3h ?A2g ?A1f ?A2e ?sn ?tk ?a_CW ?a_W0 ?Z2b ?Z5j ?Z9x ?Z6p ?Z5z ?Z0c ?Z2z ?A0ed ?Y8r ?Z9w ?C4p ?C5k ?C5n ?C3e ?B5z ?a_W1 ?A0fe ?A0dr ?A0bk ?A0en ?Z0s ?A0ad ?Z0m ?Z8b ?A0aw ?Z1u ?C5g ?C3x ?C5h ?C3k ?B6c ?a_W2 ?A0ca ?Z5d ?A0be ?Z5x ?Z4s ?Z7q ?Y8p ?Y9f ?Z2t ?A0ex ?C4b ?C5q ?C6c ?C3h ?B6f ?a_W3 ?A0dd ?A0dz ?Z4y ?Z6v ?Z9j ?A0bc ?Z1j ?A0ak ?A0cg ?Z6e ?C6a ?C2j ?C2e ?C2u ?B6j ?a_W4 ?Z2f ?Z1b ?A0bw ?A0ck ?Z6x ?Y9k ?Z8k ?A0ek ?Z1s ?Z7t ?C4m ?C2c ?C2t ?C4d ?B6g ?a_W5 ?Z6f ?Z4x ?Z5u ?Y9n ?Z4v ?Y8v ?A0av ?A0bd ?Z0f ?Z7e ?C4v ?C4k ?C5w ?C2g ?B6a ?a_W6 ?Y9v ?Z8r ?Z0e ?Y8y ?Z7u ?A0cv ?A0fd ?A0am ?Z8w ?Z5h ?C4n ?C2x ?C3s ?C2f ?B5y ?a_W7 ?A0eq ?A0ac ?Z3r ?Z9z ?Z2m ?A0er ?A0cz ?Z5n ?Z6g ?A0bg ?C5u ?C3m ?C2d ?C3z ?B6d ?a_CN ?A0dj ?Z2a ?A0dk ?Z6n ?Z9y ?Y9s ?Z4e ?A0dt ?C3g ?C4j ?A8w ?B8q ?Z2x ?Y8s ?A0bq ?A0dy ?A0bv ?G6g ?A9f ?B0v ?B0a ?A8z ?A3y ?B3r ?B2u ?B3h ?B2h ?A5u ?B0s ?A9u ?A9g ?A8x ?A3t ?B4x ?B2b ?B2z ?B3j ?A5s ?B0m ?B0k ?B0h ?B0w ?A3s ?B4q ?B4s ?B4h ?B2f ?A5x ?A9v ?A9n ?A8v ?B0x ?A3x ?B2a ?B4e ?B5h ?B2d ?A5v ?A9j ?A9t ?B0f ?A8k ?A3v ?B2v ?B2x ?B4w ?B4u ?A5t ?A9h ?B0q ?A9d ?A9y ?A3w ?B4n ?B3s ?B2r ?B3x ?A5q ?A9s ?B0t ?B0d ?B0n ?A3z ?B4r ?B2y ?B4z ?B3p ?A5y ?A9x ?A8t ?B0p ?A8r ?A3u ?B4t ?B3n ?B5b ?B2g ?A5r ?a_CC ?A0cp ?Z8x ?A0fu ?A0da ?Z3g ?Z3t ?C3t ?C5t ?B9q ?C5a ?B8m ?B0b ?A0af ?Z3y ?A0ep ?A0ar ?Z1k ?Z8t ?B9t ?B9g ?B9p ?B9m ?A8u ?B4d ?B3k ?B3g ?B3u ?A5z ?D2u ?D2s ?D3e ?D2w ?C0v ?B4f ?B2k ?B3t ?B4k ?A6a ?B8g ?B9a ?B8h ?B8p ?A8j ?a_CQ ?Z3d ?Z5b ?Z8p ?Z4t ?A0ab ?A0ct ?A0es ?Z5a ?D2m ?B4y ?B8x ?Z6d ?A0aa ?A0ae ?Z2c ?Y9g ?J6d ?B9b ?B9f ?B8n ?B9r ?B0e ?G3r ?J1z ?J3r ?G3d ?C7t ?a_CE ?Z1h ?a_C1 ?a_C2 ?a_C3 ?a_C4 ?a_CR ?cty ?ccl ?cex ?sub4 ?xga4 ?xgh4 ?xca4 ?xob4 ?xbe4 ?xcl4 ?h4_1 ?h4_2 ?h4_3 ?h4_4 ?hv4 ?lT ?lN ?alN ?niT ?lT1 ?saT ?nsg4 ?l_iT ?c_iT ?k_iT ?fcT ?kTR ?q1 ?q2 ?q3 ?a_S ?lS ?a_RO ?Z5t ?Y9h ?A0fr ?A0fp ?A0cs ?A0eh ?Z0w ?A0ec ?D4z ?B9d ?Z2s ?Z3b ?Z9t ?Z5e ?Z9r ?J9b ?B8v ?B8r ?B9j ?B8f ?A9c ?G8e ?J2n ?G7u ?G7h ?C7w ?A0cx
   case B2m|B5g|B3d|B3m|G8u|J1y|J2e|J0v|D0x|D0y|D4r|D0r|G8t|G7m|J3j|G3m|G5g|J2x|J0u|G9v|G5k|G6d|J2p|G9k|A0dg|Z2j|A0em|A0dv|C6g|C3w|C4z|C3p|U4d|U6h|U7d|U3c|V2b|U4b|V2a|U1v|J0c|J0q|G6u|G3u|B8s|B9u|B8y|B8u|G4v|G9d|G6s|G5u|D2z|D4m|D3v|D2x|C5x|C2z|C4c|C2v => k_is
   case Y9c|A0ej|Z6y|Z2w|C4a|C3j|C5v|C5s|G4q|J0p|G4k|G8d|C3u|C6e|C5d|C3q|D2r|D2a|D3x|D4v|C5z|C4t|C5c|C4g|B3c|B3b|B4b|B3y|D1d|D3m|D1h|D1a|D4d|D2j|D4t|D3t|G2z|G6t|J1t|J0t|G4d|G6w|G9w|J3t|C3b|C3v|C5e|C6b|C4q|C2a|C6h|C2y|D2t|D4a|D1z|D0k|U6w|U5m|U5a|U8x => k_is
   case J3d|G5z|J2g|G4p|C3n|C4u|C4e|C4h|V0j|U6m|U5c|U3s|B5f|B2c|B4j|B3a|D3h|D2h|D4u|D1j|U9j|U3d|U9f|U3q|V1m|U3a|U9k|V1k|B3v|B2w|B4a|B3w|J2f|J3u|G9a|G6p|C5j|C4f|C2n|C3f|J0h|J2v|J1g|J2w|G7r|J1f|G5r|G4j|U6d|U4a|U3t|U4q|G4s|G8f|J0s|J2m|D4q|D2b|D3b|D2g => k_is
   case U1y|U8m|V1e|V0m|U1x|V2g|U2c|U2q|G3a|G3e|J3f|J1h|U8u|V2c|U9w|U6v|V0u|U7z|V0c|V0y|D4f|D3n|D2f|D3w|U2n|U6e|U9e|V1d|D4n|D0m|D4k|D0p|D3p|D1q|D4h|D4c|D2p|D1y|D1g|D0v|Y9j|Z4d|Z4c|Z1w|G6b|J0m|J1a|G8w|J1j|G5n|G3j|G3x|D3j|D3q|D1n|D1e|B9k|B9c|B9n|B9e => k_is
   case C5b|C3a|C2p|C5y|G8a|J0b|J1b|G3c|D3y|D1b|D0w|D1s|J0z|G5x|G6y|G3y|C4r|C3c|C2m|C2b|B0c|A9w|A9z|B0r|G5j|G5y|G3h|G4f|G4h|J0a|J1q|G6x|C2q|C3r|C2h|C3y|D4j|D3f|D3d|D4g|U5t|U4p|U9x|U4z|G4e|G2s|J3b|J1s|G3n|J3w|G9z|J3a|V4n|Z1x|A0ax|A0ff|A9a|Z2q|U7e|A0bs => k_is
   case U5r|G6e|U7g|Z9d|G4w|Z8d|Z7v|Z0q|Y8q|Z7k|A0ce|V1v|B2j|B8j|Z3v|D1c|D4s|A0bj|A9k => k_is
   case B9s|B4p|B8z|B5e|A9e|B3e|B4c|A8q|B4m|A8m|A6k|A8n|B8k|B2q|B8t|B5a|A8s|B2p|B2n|A9b|B3z|A9q|A6p|B0u|B0g|A6m|A9p|A6h|A5e|A6j|B2s|B0j|B5c|A9r|A6n|A8y|A3j|A2d|A3h|A2g|A1f|A2e => kit_is
   case sn|tk|a_CW|a_W0|Z2b|Z5j|Z9x|Z6p|Z5z|Z0c|Z2z|A0ed|Y8r => k_is
   case Z9w => kit_is
   case C4p|C5k|C5n|C3e|B5z|a_W1|A0fe|A0dr|A0bk|A0en|Z0s|A0ad|Z0m|Z8b|A0aw => k_is
   case Z1u => kit_is
   case C5g|C3x|C5h|C3k|B6c|a_W2|A0ca|Z5d|A0be|Z5x|Z4s|Z7q|Y8p|Y9f|Z2t => k_is
   case A0ex => kit_is
   case C4b|C5q|C6c|C3h|B6f|a_W3|A0dd|A0dz|Z4y|Z6v|Z9j|A0bc|Z1j|A0ak|A0cg => k_is
   case Z6e => kit_is
   case C6a|C2j|C2e|C2u|B6j|a_W4|Z2f|Z1b|A0bw|A0ck|Z6x|Y9k|Z8k|A0ek|Z1s => k_is
   case Z7t => kit_is
   case C4m|C2c|C2t|C4d|B6g|a_W5|Z6f|Z4x|Z5u|Y9n|Z4v|Y8v|A0av|A0bd|Z0f => k_is
   case Z7e => kit_is
   case C4v|C4k|C5w|C2g|B6a|a_W6|Y9v|Z8r|Z0e|Y8y|Z7u|A0cv|A0fd|A0am|Z8w => k_is
   case Z5h => kit_is
   case C4n|C2x|C3s|C2f|B5y|a_W7|A0eq|A0ac|Z3r|Z9z|Z2m|A0er|A0cz|Z5n|Z6g => k_is
   case A0bg => kit_is
   case C5u|C3m|C2d|C3z|B6d|a_CN|A0dj|Z2a|A0dk|Z6n|Z9y|Y9s|Z4e|A0dt|C3g|C4j|A8w|B8q|Z2x|Y8s|A0bq|A0dy|A0bv => k_is
   case G6g => kit_is
   case A9f|B0v|B0a|A8z|A3y|B3r|B2u|B3h|B2h|A5u|B0s|A9u|A9g|A8x|A3t|B4x|B2b|B2z|B3j|A5s|B0m|B0k|B0h|B0w|A3s|B4q|B4s|B4h|B2f|A5x|A9v|A9n|A8v|B0x|A3x|B2a|B4e|B5h|B2d|A5v|A9j|A9t|B0f|A8k|A3v|B2v|B2x|B4w|B4u|A5t|A9h|B0q|A9d|A9y|A3w|B4n|B3s|B2r|B3x|A5q => k_is
   case A9s|B0t|B0d|B0n|A3z|B4r|B2y|B4z|B3p|A5y|A9x|A8t|B0p|A8r|A3u|B4t|B3n|B5b|B2g|A5r|a_CC|A0cp|Z8x|A0fu|A0da|Z3g|Z3t|C3t|C5t|B9q|C5a|B8m|B0b|A0af|Z3y|A0ep|A0ar|Z1k|Z8t|B9t|B9g|B9p|B9m|A8u|B4d|B3k|B3g|B3u|A5z|D2u|D2s|D3e|D2w|C0v|B4f|B2k|B3t|B4k|A6a|B8g => k_is
   case B9a|B8h|B8p|A8j|a_CQ|Z3d|Z5b|Z8p|Z4t|A0ab|A0ct|A0es|Z5a|D2m|B4y|B8x|Z6d|A0aa|A0ae|Z2c|Y9g|J6d|B9b|B9f|B8n|B9r|B0e|G3r|J1z|J3r|G3d|C7t|a_CE => k_is
   case Z1h => kit_is
   case a_C1|a_C2|a_C3|a_C4|a_CR|cty|ccl|cex|sub4|xga4|xgh4|xca4|xob4|xbe4|xcl4 => k_is
   case h4_1|h4_2|h4_3|h4_4|hv4 => kit_is
   case lT|lN => k_is
   case alN => simp
   case niT|lT1|saT|nsg4|l_iT|c_iT|k_iT => k_is
   case fcT => rfl
   case kTR => kit_is
   case q1|q2|q3 => k_exc
   case a_S|lS|a_RO|Z5t|Y9h|A0fr|A0fp|A0cs|A0eh|Z0w|A0ec|D4z|B9d|Z2s|Z3b|Z9t|Z5e|Z9r|J9b|B8v|B8r|B9j|B8f|A9c|G8e|J2n|G7u|G7h|C7w => k_is
   case A0cx => kit_is

