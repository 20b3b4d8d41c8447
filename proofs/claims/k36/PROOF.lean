import PyProof.Rows.All
import Wide.All
import OpenK.KLine
import OpenK.KOwn
import KE.RegKIsAll
import KE.KItem
import KE.LcSums
import KE.KPairTest
import Wide.FinOn
import Lean
import PyProof.EqAt
import PyProof.EqKinds
import PyProof.TupleCall
import PyProof.Rows.Catch
import PyProof.Rows.TupIter
import PyProof.TupleIter
import PyProof.Seq
import PyProof.ExcInit
import PyProof.ExcClass2
import KE.KIntText
import PyProof.StrOps2
import PyProof.ConsumeWalk
import PyProof.Rows.RuleM_int
import PyProof.ZipIter
import PyProof.EnumMake
import PyProof.Rows.TupAssign
import PyProof.Rows.Range3
import PyProof.DictWalks
import PyProof.DictUpdate
import PyProof.P3In
import PySem.Challenge.RW_tenreckon_k36_whole_rows_of_deeds
set_option Elab.async false
set_option linter.all false
set_option maxRecDepth 100000
namespace PySem.W.Fast
theorem tw10515529583567388555:True:=trivial
theorem tw9471975957513084386:True:=trivial
theorem tw15310363862655339030:True:=trivial
theorem tw11879565108095411103:True:=trivial
theorem tw2606266575115585485:True:=trivial
theorem tw861502493610598483:True:=trivial
theorem tw8479069092035166179:True:=trivial
theorem tw10860016986814850708:True:=trivial
theorem tw12765443698636745519:True:=trivial
theorem tw14865148556353764299:True:=trivial
theorem tw2789366408237562005:True:=trivial
theorem tw7774113678449685934:True:=trivial
theorem tw8284440405640956358:True:=trivial
theorem tw10470395438987851565:True:=trivial
theorem tw1553595786076442722:True:=trivial
theorem tw2042730919218753758:True:=trivial
theorem tw3244086316793181374:True:=trivial
theorem tw16008359073273489704:True:=trivial
theorem tw12509177155966099375:True:=trivial
theorem tw55967982260289129:True:=trivial
theorem tw2706584449700448635:True:=trivial
theorem tw3112634735961092027:True:=trivial
theorem tw17863247350239516317:True:=trivial
theorem tw9922692919076937540:True:=trivial
theorem tw17472340661787783526:True:=trivial
theorem tw14294133066467233204:True:=trivial
theorem tw14411198650409599699:True:=trivial
theorem tw11309372005391194571:True:=trivial
theorem tw17188069144378779261:True:=trivial
theorem tw4748718124796900757:True:=trivial
theorem tw14257035121206530791:True:=trivial
theorem tw3035684303608254311:True:=trivial
theorem tw12826555694032677247:True:=trivial
theorem tw8232614014015475128:True:=trivial
theorem tw12524954882073270795:True:=trivial
theorem tw8191318114535113306:True:=trivial
theorem tw11525993766095887173:True:=trivial
theorem tw3717076922277056940:True:=trivial
theorem tw15499940227032437249:True:=trivial
theorem tw13571862603940711859:True:=trivial
theorem tw4946147512530127568:True:=trivial
theorem tw1848955828906020544:True:=trivial
theorem tw12103309309050226592:True:=trivial
theorem tw15627779663793561183:True:=trivial
theorem tw17512793052788017329:True:=trivial
theorem tw8283583134300015385:True:=trivial
theorem tw3897268976836264337:True:=trivial
theorem tw8449011251938081770:True:=trivial
theorem tw514280064592716601:True:=trivial
theorem tw1986786360949550309:True:=trivial
theorem tw6329614223026926184:True:=trivial
theorem tw9630203353718772412:True:=trivial
theorem tw18402417329435992164:True:=trivial
theorem tw175865515317133832:True:=trivial
theorem tw10741264400317747893:True:=trivial
theorem tw17937168697417666835:True:=trivial
theorem tw977512076041815475:True:=trivial
theorem tw3671519592330383864:True:=trivial
theorem tw4944497897694004105:True:=trivial
theorem tw14202271707224943307:True:=trivial
theorem tw10826640976665885199:True:=trivial
theorem tw593343749668468936:True:=trivial
theorem tw1941844328875101383:True:=trivial
theorem tw16615150188913437886:True:=trivial
theorem tw9959121941294770655:True:=trivial
theorem tw2314633323536394700:True:=trivial
theorem tw16765560720781731146:True:=trivial
theorem tw10146569101766770184:True:=trivial
theorem tw12200699767478067731:True:=trivial
theorem tw4408816720484365081:True:=trivial
theorem tw6148498323302512570:True:=trivial
theorem tw9399754086935153974:True:=trivial
theorem tw13053394406489344094:True:=trivial
theorem tw11391943821493960052:True:=trivial
theorem tw16103829930404553856:True:=trivial
theorem tw9536688357841153863:True:=trivial
theorem tw13439652990877377571:True:=trivial
theorem tw8521684928402303493:True:=trivial
theorem tw866652123128751154:True:=trivial
theorem tw10953238642706405951:True:=trivial
theorem tw3438699932752214802:True:=trivial
theorem tw17271881437230615512:True:=trivial
theorem tw1804834754348979943:True:=trivial
theorem tw5665240888008139550:True:=trivial
theorem tw16522183678017940807:True:=trivial
theorem tw14081431093454284249:True:=trivial
theorem tw6188973233030003785:True:=trivial
theorem tw11368310244458860372:True:=trivial
theorem tw13114645530532618160:True:=trivial
theorem tw16109456028575089023:True:=trivial
theorem tw15699961213505342161:True:=trivial
theorem tw6522051377940421278:True:=trivial
theorem tw5711038861398032994:True:=trivial
theorem tw11120740854625124088:True:=trivial
theorem tw1998347030407657756:True:=trivial
theorem tw11267315532378154396:True:=trivial
theorem tw506581581156960101:True:=trivial
theorem tw1537541725227008683:True:=trivial
theorem tw10164718903369591474:True:=trivial
theorem tw8752102160057688731:True:=trivial
theorem tw987426779421491659:True:=trivial
theorem tw4413860948169739490:True:=trivial
theorem tw17986951261819808105:True:=trivial
theorem tw16583815154217966991:True:=trivial
theorem tw16766683885213920930:True:=trivial
theorem tw9584292182412213727:True:=trivial
theorem tw13861322856664149509:True:=trivial
theorem tw4102176305081739490:True:=trivial
theorem tw8392358500681263680:True:=trivial
theorem tw1572662034153507859:True:=trivial
theorem tw2333105410213810865:True:=trivial
theorem tw17980500129456985241:True:=trivial
theorem tw4766597723019941021:True:=trivial
theorem tw7764699552788554220:True:=trivial
theorem tw1725486776273817318:True:=trivial
theorem tw2046362190076281809:True:=trivial
theorem tw3851428956369438258:True:=trivial
theorem tw14454166528178196959:True:=trivial
theorem tw3436067635600285980:True:=trivial
theorem tw16797375974695604193:True:=trivial
theorem tw17510684818845775701:True:=trivial
theorem tw10837687280496395606:True:=trivial
theorem tw18310463660012746435:True:=trivial
theorem tw6427576097997697322:True:=trivial
theorem tw17916429707943930468:True:=trivial
theorem tw17823556299335049440:True:=trivial
theorem tw2781441929908095834:True:=trivial
theorem tw7766106395892283477:True:=trivial
theorem tw15227483606004533461:True:=trivial
theorem tw11205608169257636508:True:=trivial
theorem tw17163426234232328066:True:=trivial
theorem tw3198059409981156222:True:=trivial
theorem tw14935156969734317764:True:=trivial
theorem tw5239429619861171699:True:=trivial
theorem tw463774138113389760:True:=trivial
theorem tw699815216081779126:True:=trivial
theorem tw14538725608371270373:True:=trivial
theorem tw5008408621672944243:True:=trivial
theorem tw1351852979975943594:True:=trivial
theorem tw651700358538967526:True:=trivial
theorem tw907951536374205942:True:=trivial
theorem tw7363655315013122544:True:=trivial
theorem tw14226173905949225808:True:=trivial
theorem tw18441984877410159329:True:=trivial
theorem tw15925456577456769635:True:=trivial
theorem tw8274446707539698164:True:=trivial
theorem tw8919978131948313185:True:=trivial
theorem tw14332724281983326942:True:=trivial
theorem tw14398111036562950334:True:=trivial
theorem tw10065395384575387378:True:=trivial
theorem tw10510056951384868246:True:=trivial
theorem tw3992765435912101610:True:=trivial
theorem tw13484562703626004877:True:=trivial
theorem tw6822071536725586909:True:=trivial
theorem tw17890440400047909864:True:=trivial
theorem tw14479964200598819128:True:=trivial
theorem tw2213964242967304950:True:=trivial
theorem tw5217270863462422736:True:=trivial
theorem tw3456351732281881909:True:=trivial
theorem tw9388066449989048879:True:=trivial
theorem tw10258873121960336067:True:=trivial
theorem tw609457278022895560:True:=trivial
theorem tw3215387988796971590:True:=trivial
theorem tw577049184839899653:True:=trivial
theorem tw3721919958574915784:True:=trivial
theorem tw2810200551564342888:True:=trivial
theorem tw12125097214300078407:True:=trivial
theorem tw11911167908941700269:True:=trivial
theorem tw866717566613908145:True:=trivial
theorem tw5610444585433571239:True:=trivial
theorem tw5832146486336120021:True:=trivial
theorem tw10295913840692754127:True:=trivial
theorem tw12917704675397863716:True:=trivial
theorem tw727553628536289456:True:=trivial
theorem tw4538635040379822027:True:=trivial
theorem tw3235425350174046738:True:=trivial
theorem tw256182404569192445:True:=trivial
theorem tw2956708394376553000:True:=trivial
theorem tw8318101203651539667:True:=trivial
theorem tw13851971633180934007:True:=trivial
theorem tw628631919661052299:True:=trivial
theorem tw2261719852989239553:True:=trivial
theorem tw16108870410212019532:True:=trivial
theorem tw16005714805435085966:True:=trivial
theorem tw14647417624928369756:True:=trivial
theorem tw15401437161963490237:True:=trivial
theorem tw11421057715548341654:True:=trivial
theorem tw15402603294489630176:True:=trivial
theorem tw17760279517084355780:True:=trivial
theorem tw206757683497733573:True:=trivial
theorem tw2455152089536381482:True:=trivial
theorem tw18094105663378112561:True:=trivial
theorem tw14387916025512776202:True:=trivial
theorem tw16212330677787901120:True:=trivial
theorem tw2868442198168577507:True:=trivial
theorem tw10236332898609347644:True:=trivial
theorem tw2983494736656345032:True:=trivial
theorem tw16035376269474964883:True:=trivial
theorem tw11434409910335936926:True:=trivial
theorem tw8157277791214410489:True:=trivial
theorem tw5289818103960998278:True:=trivial
theorem tw12369848792361866835:True:=trivial
theorem tw5037459499596335280:True:=trivial
theorem tw11095110211248682772:True:=trivial
theorem tw14958820412457663293:True:=trivial
theorem tw10052031235695348791:True:=trivial
theorem tw9553971096990549364:True:=trivial
theorem tw1937721966566455358:True:=trivial
theorem tw7485256538410118956:True:=trivial
theorem tw14938211915633500526:True:=trivial
theorem tw2259672571474061568:True:=trivial
theorem tw9404705873571188630:True:=trivial
theorem tw12772213712371865176:True:=trivial
theorem tw17360015989920007124:True:=trivial
theorem tw11489344026974618541:True:=trivial
theorem tw11153126096140912846:True:=trivial
theorem tw4860023922305330110:True:=trivial
theorem tw11151835277377553703:True:=trivial
theorem tw10519837036962490867:True:=trivial
theorem tw15565715512253457277:True:=trivial
theorem tw8222940686941784037:True:=trivial
theorem tw1070438729232803039:True:=trivial
theorem tw4699756791338806529:True:=trivial
theorem tw4938610541543285704:True:=trivial
theorem tw11513857634932158529:True:=trivial
theorem tw4189273013823423559:True:=trivial
theorem tw17267597263503486738:True:=trivial
theorem tw991626836265849350:True:=trivial
theorem tw9387514328989991554:True:=trivial
theorem tw17499849576073844966:True:=trivial
theorem tw16132249320637822498:True:=trivial
theorem tw8733291241859026926:True:=trivial
theorem tw15539815450414544023:True:=trivial
theorem tw539538531456391632:True:=trivial
theorem tw1708089923452030704:True:=trivial
theorem tw3308634892276815127:True:=trivial
theorem tw5667099127317398114:True:=trivial
theorem tw18157406047293677543:True:=trivial
theorem tw5920806927976990809:True:=trivial
theorem tw172746767574481773:True:=trivial
theorem tw2768188642542392010:True:=trivial
theorem tw4290864757253303354:True:=trivial
theorem tw5388589039460942527:True:=trivial
theorem tw14564479935002850509:True:=trivial
theorem tw5171440476677080432:True:=trivial
theorem tw13813618637161013713:True:=trivial
theorem tw5832305185047221409:True:=trivial
theorem tw1825952489489211193:True:=trivial
theorem tw4449297822257671152:True:=trivial
theorem tw12715800853834201459:True:=trivial
theorem tw10042083083395451092:True:=trivial
theorem tw16493865465440409018:True:=trivial
theorem tw14261769069557060686:True:=trivial
theorem tw256976265262469064:True:=trivial
theorem tw5622701340561072331:True:=trivial
theorem tw2084650752826471497:True:=trivial
theorem tw12768989823518198380:True:=trivial
theorem tw4334401890000744311:True:=trivial
theorem tw9950792792127014553:True:=trivial
theorem tw2694234056635809718:True:=trivial
theorem tw13622603851894308203:True:=trivial
theorem tw2629151800749243262:True:=trivial
theorem tw10988764466652934233:True:=trivial
theorem tw5483103596317574428:True:=trivial
theorem tw14061609134260724683:True:=trivial
theorem tw7007286002206832825:True:=trivial
theorem tw6880980288501444468:True:=trivial
theorem tw15771247859494662083:True:=trivial
theorem tw10861573186032746274:True:=trivial
theorem tw2708214617527550399:True:=trivial
theorem tw258204147387103276:True:=trivial
theorem tw7050804516273991350:True:=trivial
theorem tw12099505692703838030:True:=trivial
theorem tw14760874974797668852:True:=trivial
theorem tw17339309145561079191:True:=trivial
theorem tw2466311954974566718:True:=trivial
theorem tw8006371003960147343:True:=trivial
theorem tw5306753302271460952:True:=trivial
theorem tw5362036446546632119:True:=trivial
theorem tw13421457143807847188:True:=trivial
theorem tw5522115075389312692:True:=trivial
theorem tw16248296213531012650:True:=trivial
theorem tw16279288168775177219:True:=trivial
theorem tw2358075552688931204:True:=trivial
theorem tw17013487888433625170:True:=trivial
theorem tw9433028549170029634:True:=trivial
theorem tw6469784823511061222:True:=trivial
theorem tw14903569129155370506:True:=trivial
theorem tw16682895059504647277:True:=trivial
theorem tw8833496514701923757:True:=trivial
theorem tw17508347553164502932:True:=trivial
theorem tw8995945545434573385:True:=trivial
theorem tw3110587219445414310:True:=trivial
theorem tw2741014181512449073:True:=trivial
theorem tw6702445572142316249:True:=trivial
theorem tw12652081859355081885:True:=trivial
theorem tw3475869608268796686:True:=trivial
theorem tw15702583709834301711:True:=trivial
theorem tw17577329170770402720:True:=trivial
theorem tw16919654943277366748:True:=trivial
theorem tw13539809779269347639:True:=trivial
theorem tw3300454383303005205:True:=trivial
theorem tw8924819469995637033:True:=trivial
theorem tw12138319994727072339:True:=trivial
theorem tw4470585836733325578:True:=trivial
theorem tw8498532028676091811:True:=trivial
theorem tw11153475782318119604:True:=trivial
theorem tw17214186515701724070:True:=trivial
theorem tw2483420100392427323:True:=trivial
theorem tw3419001889969749887:True:=trivial
theorem tw14170518179582410385:True:=trivial
theorem tw14833712730911297017:True:=trivial
theorem tw14842496431369740429:True:=trivial
theorem tw13567515925198824819:True:=trivial
theorem tw9977182230042388008:True:=trivial
theorem tw11076892268299887525:True:=trivial
theorem tw14727194681476072466:True:=trivial
theorem tw8047209995159408440:True:=trivial
theorem tw16247262843940693239:True:=trivial
theorem tw13444670453868202053:True:=trivial
theorem tw12670982853097334264:True:=trivial
theorem tw726351398001015727:True:=trivial
theorem tw3831019782443316194:True:=trivial
theorem tw11266997524610791606:True:=trivial
theorem tw10373885705245885314:True:=trivial
theorem tw2789304352393801511:True:=trivial
theorem tw2646887283097553488:True:=trivial
theorem tw4561898282857576226:True:=trivial
theorem tw7770478706760583155:True:=trivial
theorem tw12727641955093265886:True:=trivial
theorem tw13127508451798649013:True:=trivial
theorem tw11898673842065290130:True:=trivial
theorem tw14424681132571578402:True:=trivial
theorem tw11564986514327137767:True:=trivial
theorem tw16864618592142003386:True:=trivial
theorem tw2931988195819169919:True:=trivial
theorem tw3239113980409921550:True:=trivial
theorem tw17678831435119133177:True:=trivial
theorem tw16378183091871739711:True:=trivial
theorem tw3543459598558145280:True:=trivial
theorem tw11401859456886640639:True:=trivial
theorem tw3099597729799864441:True:=trivial
theorem tw890339118813698166:True:=trivial
theorem tw9197174079833555027:True:=trivial
theorem tw18073898193381586223:True:=trivial
theorem tw3303267245142563540:True:=trivial
theorem tw15438627641174518403:True:=trivial
theorem tw17680797132471856694:True:=trivial
theorem tw5233118043267047457:True:=trivial
theorem tw5467331546851215429:True:=trivial
theorem tw10888863842102328177:True:=trivial
theorem tw16260866306193365299:True:=trivial
theorem tw17590705303994421779:True:=trivial
theorem tw12960429369202013873:True:=trivial
theorem tw16670775579421159206:True:=trivial
theorem tw13861969467909019144:True:=trivial
theorem tw8166255043249204926:True:=trivial
theorem tw9615563845995560447:True:=trivial
theorem tw6170744672141170255:True:=trivial
theorem tw140001813534094272:True:=trivial
theorem tw16756451883985382160:True:=trivial
theorem tw13349420017058727143:True:=trivial
theorem tw6657536258744368796:True:=trivial
theorem tw15895094517606616290:True:=trivial
theorem tw1607123104830579860:True:=trivial
theorem tw8997383693586321770:True:=trivial
theorem tw8565224436197482051:True:=trivial
theorem tw16607193741793207195:True:=trivial
theorem tw14284835775768690865:True:=trivial
theorem tw3049343062529576306:True:=trivial
theorem tw3713540243193553862:True:=trivial
theorem tw9510108024173832781:True:=trivial
theorem tw11853640710764476214:True:=trivial
theorem tw13160504802963445071:True:=trivial
theorem tw12003660372656728261:True:=trivial
theorem tw8739830900816887780:True:=trivial
theorem tw8996207646774452837:True:=trivial
theorem tw18124618509676941091:True:=trivial
theorem tw11033627544408312984:True:=trivial
theorem tw8159993647027272844:True:=trivial
theorem tw10624116801336726872:True:=trivial
theorem tw5274481202262711730:True:=trivial
theorem tw6128145076113358165:True:=trivial
theorem tw7943549864190904611:True:=trivial
theorem tw6945566481307383155:True:=trivial
theorem tw11692469974320434101:True:=trivial
theorem tw446995266069924076:True:=trivial
theorem tw15590096980072825465:True:=trivial
theorem tw13913613514976480042:True:=trivial
theorem tw3365755272349913518:True:=trivial
theorem tw17382457898008728272:True:=trivial
theorem tw12717557048674177747:True:=trivial
theorem tw1840220198017710270:True:=trivial
theorem tw14334995849660946996:True:=trivial
theorem tw13394580363473044415:True:=trivial
theorem tw443766864951011646:True:=trivial
theorem tw10879749546641988924:True:=trivial
theorem tw1402340071739887797:True:=trivial
theorem tw17137270108147033825:True:=trivial
theorem tw2244103112122482387:True:=trivial
theorem tw12314708539913122752:True:=trivial
theorem tw3778530596728393105:True:=trivial
theorem tw6828597562223498359:True:=trivial
theorem tw2399617604181995578:True:=trivial
theorem tw2386784164831690217:True:=trivial
theorem tw1467881925912835984:True:=trivial
theorem tw11384182702204212275:True:=trivial
theorem tw13366278800048369731:True:=trivial
theorem tw13307065042914920193:True:=trivial
theorem tw15685335758407661847:True:=trivial
theorem tw16902085369446701243:True:=trivial
theorem tw772564365185477556:True:=trivial
theorem tw10539347186207431242:True:=trivial
theorem tw5008593111378822452:True:=trivial
theorem tw9003107776662980439:True:=trivial
theorem tw18004296560267143027:True:=trivial
theorem tw6208910965292489261:True:=trivial
theorem tw9045458381397004210:True:=trivial
theorem tw18407495941553956032:True:=trivial
theorem tw8834805137890396735:True:=trivial
theorem tw11962351593759143498:True:=trivial
theorem tw3997487885647526937:True:=trivial
theorem tw14785633479632635281:True:=trivial
theorem tw16766484511958638138:True:=trivial
theorem tw11449968299874610285:True:=trivial
theorem tw7249310025045793396:True:=trivial
theorem tw14260533273033392520:True:=trivial
theorem tw12435058653956393420:True:=trivial
theorem tw11066385474520676512:True:=trivial
theorem tw15475723433398761304:True:=trivial
theorem tw12921946191010883867:True:=trivial
theorem tw5805800948307579973:True:=trivial
theorem tw12903330217458380548:True:=trivial
theorem tw13710940844802916613:True:=trivial
theorem tw15932183184989994656:True:=trivial
theorem tw6145912378217320015:True:=trivial
theorem tw7501186508268903616:True:=trivial
theorem tw2015444344454546412:True:=trivial
theorem tw4849480874435393781:True:=trivial
theorem tw10085292869130188298:True:=trivial
theorem tw360634875079729221:True:=trivial
theorem tw5086489192560080304:True:=trivial
theorem tw6858818405166986180:True:=trivial
theorem tw14934011241717051027:True:=trivial
theorem tw10095894221667365369:True:=trivial
theorem tw12382822922155266910:True:=trivial
theorem tw12315944733273679750:True:=trivial
theorem tw8909772338491405060:True:=trivial
theorem tw10395332584310045583:True:=trivial
theorem tw4804111812005502284:True:=trivial
theorem tw16822532161544500889:True:=trivial
theorem tw11107512795663914464:True:=trivial
theorem tw9678289623588505577:True:=trivial
theorem tw18384110700954362821:True:=trivial
theorem tw5263133172445716209:True:=trivial
theorem tw10859743581388371069:True:=trivial
theorem tw4547051000311932777:True:=trivial
theorem tw7509565986652818475:True:=trivial
theorem tw12091130801917272685:True:=trivial
theorem tw15969335453137586327:True:=trivial
theorem tw15481805183316651443:True:=trivial
theorem tw14135006944967825841:True:=trivial
theorem tw4598271963242535575:True:=trivial
theorem tw13298828918039433023:True:=trivial
theorem tw18383651708701053236:True:=trivial
theorem tw15326580083554890809:True:=trivial
theorem tw2595618661548880785:True:=trivial
theorem tw7424060955962978353:True:=trivial
theorem tw6259241058660970061:True:=trivial
theorem tw5404398260228975080:True:=trivial
theorem tw13996866031312336078:True:=trivial
theorem tw16792556548410726896:True:=trivial
theorem tw12058884036946728934:True:=trivial
theorem tw12330612334027959195:True:=trivial
theorem tw11524815483048965402:True:=trivial
theorem tw9744259246892133002:True:=trivial
theorem tw7828442866392281868:True:=trivial
theorem tw11429584451438056573:True:=trivial
theorem tw296083027919845158:True:=trivial
theorem tw786537726763496527:True:=trivial
theorem tw16053306600634468012:True:=trivial
theorem tw11308061921803828041:True:=trivial
theorem tw17691633702590694504:True:=trivial
theorem tw14904681115217272601:True:=trivial
theorem tw12930229547647579594:True:=trivial
theorem tw1383625962624193546:True:=trivial
theorem tw13810262117814702294:True:=trivial
theorem tw16802631365582062104:True:=trivial
theorem tw18335596039185421423:True:=trivial
theorem tw4524658085876675188:True:=trivial
theorem tw10016166984437732892:True:=trivial
theorem tw10282777137419654623:True:=trivial
theorem tw11481637867367846703:True:=trivial
theorem tw12188032599808994241:True:=trivial
theorem tw1956260828630720203:True:=trivial
theorem tw13385558918117058561:True:=trivial
theorem tw8331849164307833061:True:=trivial
theorem tw13459084325293418506:True:=trivial
theorem tw4971374062829452455:True:=trivial
theorem tw2576523973992343609:True:=trivial
theorem tw1950803216711332702:True:=trivial
theorem tw15831126876759372255:True:=trivial
theorem tw8219003486749837733:True:=trivial
theorem tw615563214671542189:True:=trivial
theorem tw9646623106273453227:True:=trivial
theorem tw14611616552423853409:True:=trivial
theorem tw6278996535519779258:True:=trivial
theorem tw2692750590507578028:True:=trivial
theorem tw13053770412826190925:True:=trivial
theorem tw18293242582946804979:True:=trivial
theorem tw17852080271459398996:True:=trivial
theorem tw13769103115541136327:True:=trivial
theorem tw3277229846650655979:True:=trivial
theorem tw10341888390210383824:True:=trivial
theorem tw16955839230299176341:True:=trivial
theorem tw1142673529048489019:True:=trivial
theorem tw7001957589650049515:True:=trivial
theorem tw4859391219904099992:True:=trivial
theorem tw8272569733616993153:True:=trivial
theorem tw15240619367488684849:True:=trivial
theorem tw6060609690816243450:True:=trivial
theorem tw4480162626587320490:True:=trivial
theorem tw11662115353561507501:True:=trivial
theorem tw14391293386007564604:True:=trivial
theorem tw1599053048872161195:True:=trivial
theorem tw12901003280762261817:True:=trivial
theorem tw10161179621583223854:True:=trivial
theorem tw16859961878692490766:True:=trivial
theorem tw12550775161083096063:True:=trivial
theorem tw14404928986312190071:True:=trivial
theorem tw16101134707931498060:True:=trivial
theorem tw16636501806038632012:True:=trivial
theorem tw13855379610559885079:True:=trivial
theorem tw15806707075529380192:True:=trivial
theorem tw8212203176049278890:True:=trivial
theorem tw4512776594637900181:True:=trivial
theorem tw9969077435446430640:True:=trivial
theorem tw9456574344343218679:True:=trivial
theorem tw9784134513789038367:True:=trivial
theorem tw12431713363859531893:True:=trivial
theorem tw14664691819916384248:True:=trivial
theorem tw16309811473084048462:True:=trivial
theorem tw9402243437249704421:True:=trivial
theorem tw13055953723892786844:True:=trivial
theorem tw9592521066531166775:True:=trivial
theorem tw15763482434359817770:True:=trivial
theorem tw8912161614967838395:True:=trivial
theorem tw14332157829676619468:True:=trivial
theorem tw10149570385669482864:True:=trivial
theorem tw11161164713144168021:True:=trivial
theorem tw14689541978594310382:True:=trivial
theorem tw11063759124802658401:True:=trivial
theorem tw4341293187932698999:True:=trivial
theorem tw2080317491765294665:True:=trivial
theorem tw1000662321505670351:True:=trivial
theorem tw17592209452093105858:True:=trivial
theorem tw17744993626210230056:True:=trivial
theorem tw9582823730064241283:True:=trivial
theorem tw5649666937502919571:True:=trivial
theorem tw429539710256275620:True:=trivial
theorem tw15910123707662034135:True:=trivial
theorem tw14671739901194505220:True:=trivial
theorem tw1630143524128594353:True:=trivial
theorem tw12468840222048715292:True:=trivial
theorem tw3350206127114907401:True:=trivial
theorem tw10713865542653931438:True:=trivial
theorem tw11402884983299125971:True:=trivial
theorem tw211337195705725219:True:=trivial
theorem tw938635154573522699:True:=trivial
theorem tw4757880891971583632:True:=trivial
theorem tw11367827072548583756:True:=trivial
theorem tw7422445781565681216:True:=trivial
theorem tw11717715558655726156:True:=trivial
theorem tw15042883488752021643:True:=trivial
theorem tw9317495090193701157:True:=trivial
theorem tw1972164579936704799:True:=trivial
theorem tw18003772858949239459:True:=trivial
theorem tw5221592684559293012:True:=trivial
theorem tw12132732476715806282:True:=trivial
theorem tw8949853181751564097:True:=trivial
theorem tw13073492499399858440:True:=trivial
theorem tw13141587033338554882:True:=trivial
theorem tw15764947353670896545:True:=trivial
theorem tw3335794202401238526:True:=trivial
theorem tw8374155422468719031:True:=trivial
theorem tw8002303944043701648:True:=trivial
theorem tw8535803893964050539:True:=trivial
theorem tw16873086082458093902:True:=trivial
theorem tw6105849179199505303:True:=trivial
theorem tw6548459193220583526:True:=trivial
theorem tw17260811203177919210:True:=trivial
theorem tw14782954611325821827:True:=trivial
theorem tw16728255500844073214:True:=trivial
theorem tw1158361714356455011:True:=trivial
theorem tw13303234937177203706:True:=trivial
theorem tw9860861378791804195:True:=trivial
theorem tw12681666616541194006:True:=trivial
theorem tw9592300441314626372:True:=trivial
theorem tw2869065659524454656:True:=trivial
theorem tw15733337929971156237:True:=trivial
theorem tw14441679199631801671:True:=trivial
theorem tw3985964047577975286:True:=trivial
theorem tw16409965706819354750:True:=trivial
theorem tw4635989785427082552:True:=trivial
theorem tw5438652380644606353:True:=trivial
theorem tw11824586356888161845:True:=trivial
theorem tw15621415185263527259:True:=trivial
theorem tw11180800956215176064:True:=trivial
theorem tw12020253756985099128:True:=trivial
theorem tw17338325484393633139:True:=trivial
theorem tw17062427158221528723:True:=trivial
theorem tw13813548295540068894:True:=trivial
theorem tw3520257249291928256:True:=trivial
theorem tw5285915839522022235:True:=trivial
theorem tw13135312941875745310:True:=trivial
theorem tw2132029292895624192:True:=trivial
theorem tw5000232492035539693:True:=trivial
theorem tw7867829370405329436:True:=trivial
theorem tw7374399212775623666:True:=trivial
theorem tw9879335643197240621:True:=trivial
theorem tw10551173667578312727:True:=trivial
theorem tw5072417060200589145:True:=trivial
theorem tw14537775516033599862:True:=trivial
theorem tw5395340147747708899:True:=trivial
theorem tw14617222483516278133:True:=trivial
theorem tw7231845647793152400:True:=trivial
theorem tw5341297951324810720:True:=trivial
theorem tw5537553045615171315:True:=trivial
theorem tw6124413428159637790:True:=trivial
theorem tw12528533614272120300:True:=trivial
theorem tw10479991185640055810:True:=trivial
theorem tw643336161829623379:True:=trivial
theorem tw10374632558016547081:True:=trivial
theorem tw12250869413391326473:True:=trivial
theorem tw6128106870883400570:True:=trivial
theorem tw4562827626845409882:True:=trivial
theorem tw4075453323654395381:True:=trivial
theorem tw306047672372848657:True:=trivial
theorem tw2403389108928632939:True:=trivial
theorem tw10876078143196172821:True:=trivial
theorem tw14341141199694864594:True:=trivial
theorem tw17155049476370652306:True:=trivial
theorem tw1979317910248211280:True:=trivial
theorem tw14560624547652848805:True:=trivial
theorem tw7322748291113730364:True:=trivial
theorem tw14154597600763967237:True:=trivial
theorem tw15541240446876304647:True:=trivial
theorem tw9947508896943372755:True:=trivial
theorem tw6248682570935725439:True:=trivial
theorem tw9304451534382375720:True:=trivial
theorem tw17658959251048325594:True:=trivial
theorem tw4953865588907285216:True:=trivial
theorem tw6575520176995025181:True:=trivial
theorem tw3676754643040562684:True:=trivial
theorem tw2595585439558603231:True:=trivial
theorem tw13547939009206843870:True:=trivial
theorem tw6851275008772768644:True:=trivial
theorem tw14827714588952709054:True:=trivial
theorem tw11024694936033576346:True:=trivial
theorem tw4323258101793500111:True:=trivial
theorem tw896878414759379649:True:=trivial
theorem tw14782755387869428366:True:=trivial
theorem tw1922157984580058403:True:=trivial
theorem tw17318462890700432884:True:=trivial
theorem tw896239598344801917:True:=trivial
theorem tw3042748168174471775:True:=trivial
theorem tw16925712312323332580:True:=trivial
theorem tw3641951560692057861:True:=trivial
theorem tw8908233856664302321:True:=trivial
theorem tw14993981098963755598:True:=trivial
theorem tw12798174099139212305:True:=trivial
theorem tw1835071406663858368:True:=trivial
theorem tw14329579894275425762:True:=trivial
theorem tw15433366417846715934:True:=trivial
theorem tw5449601097390414333:True:=trivial
theorem tw9757595895972200118:True:=trivial
theorem tw6953138203311097117:True:=trivial
theorem tw17410218998227585676:True:=trivial
theorem tw9113380124883318265:True:=trivial
theorem tw2827255003249426055:True:=trivial
theorem tw7476452910721959123:True:=trivial
theorem tw17187875760726034783:True:=trivial
theorem tw2400638427578300857:True:=trivial
theorem tw7086961617601330827:True:=trivial
theorem tw1717767836212652739:True:=trivial
theorem tw1719895430356276633:True:=trivial
theorem tw17613222154834848340:True:=trivial
theorem tw14553807712399142462:True:=trivial
theorem tw8865387616306378214:True:=trivial
theorem tw8185220541750880888:True:=trivial
theorem tw7046044490832178742:True:=trivial
theorem tw7212858340449540239:True:=trivial
theorem tw2527701527901579348:True:=trivial
theorem tw4096438862311573950:True:=trivial
theorem tw3681537716864247207:True:=trivial
theorem tw4077048163395320219:True:=trivial
theorem tw4026147355466621588:True:=trivial
theorem tw9201617497623189827:True:=trivial
theorem tw18101783494082082527:True:=trivial
theorem tw9689729476882780088:True:=trivial
theorem tw18400553757987027518:True:=trivial
theorem tw6782663255696616371:True:=trivial
theorem tw13557862171009465336:True:=trivial
theorem tw8432719020341155521:True:=trivial
theorem tw2353497105660221152:True:=trivial
theorem tw6968137755033780318:True:=trivial
theorem tw3374319085511977134:True:=trivial
theorem tw5702276774652866934:True:=trivial
theorem tw8737599933303070863:True:=trivial
theorem tw14963028359598502718:True:=trivial
theorem tw10988312798546598065:True:=trivial
theorem tw16746677531222629524:True:=trivial
theorem tw7933485763601977624:True:=trivial
theorem tw1342123614928995077:True:=trivial
theorem tw15577281813014381367:True:=trivial
theorem tw384561282630992784:True:=trivial
theorem tw5498123283257192965:True:=trivial
theorem tw4321966507151631593:True:=trivial
theorem tw12408111787983249662:True:=trivial
theorem tw5960047855520388891:True:=trivial
theorem tw2941924889016668590:True:=trivial
theorem tw11766667032028208565:True:=trivial
theorem tw4436474186459923750:True:=trivial
theorem tw6356304189028158447:True:=trivial
theorem tw1205604411410820431:True:=trivial
theorem tw10792498714594961201:True:=trivial
theorem tw13631397514672939371:True:=trivial
theorem tw14819390147424179368:True:=trivial
theorem tw17334828202450815106:True:=trivial
theorem tw4684226298888400098:True:=trivial
theorem tw15235614512728720:True:=trivial
theorem tw8060666987683057360:True:=trivial
theorem tw16217903435359918192:True:=trivial
theorem tw4683681711962371626:True:=trivial
theorem tw8413399678365625193:True:=trivial
theorem tw2187251505897268136:True:=trivial
theorem tw13462424878891718212:True:=trivial
theorem tw11468729153070441980:True:=trivial
theorem tw4734895289157585001:True:=trivial
theorem tw16151628708876355199:True:=trivial
theorem tw2474200967059427378:True:=trivial
theorem tw9381626543082597023:True:=trivial
theorem tw12884060626414724322:True:=trivial
theorem tw6526287140368922620:True:=trivial
theorem tw10294118229990073760:True:=trivial
theorem tw11566098044289413073:True:=trivial
theorem tw15166322114958858414:True:=trivial
theorem tw13034982811429478159:True:=trivial
theorem tw12887044766017154078:True:=trivial
theorem tw7217548393331319763:True:=trivial
theorem tw15254633091992210921:True:=trivial
theorem tw15214748959534726111:True:=trivial
theorem tw2773992215795510196:True:=trivial
theorem tw9461873434466728008:True:=trivial
theorem tw12750670339961964742:True:=trivial
theorem tw3233987462203235646:True:=trivial
theorem tw4545961482378311905:True:=trivial
theorem tw6056707288978253535:True:=trivial
theorem tw11215392098479208961:True:=trivial
theorem tw13885670934486923800:True:=trivial
theorem tw5342471268416680606:True:=trivial
theorem tw9316815775250114193:True:=trivial
theorem tw18367749455379333440:True:=trivial
theorem tw2295934692909999376:True:=trivial
theorem tw8319933024895762948:True:=trivial
theorem tw3592811809046731828:True:=trivial
theorem tw8297923619242306668:True:=trivial
theorem tw12954591660760965231:True:=trivial
theorem tw7053471978191194526:True:=trivial
theorem tw8915285831880473931:True:=trivial
theorem tw7873748247521183178:True:=trivial
theorem tw10026605065719503897:True:=trivial
theorem tw15978794797337165890:True:=trivial
theorem tw13946496683202179788:True:=trivial
theorem tw3726453103677007866:True:=trivial
theorem tw8428246938381088814:True:=trivial
theorem tw3300257896294614128:True:=trivial
theorem tw2172276787581067923:True:=trivial
theorem tw2392593158011319353:True:=trivial
theorem tw1207101557538958131:True:=trivial
theorem tw12298192366917762067:True:=trivial
theorem tw14592624751514493413:True:=trivial
theorem tw10886659093417053267:True:=trivial
theorem tw13872120688422071045:True:=trivial
theorem tw13812277999558781770:True:=trivial
theorem tw10611411778653204182:True:=trivial
theorem tw8171798328758944481:True:=trivial
theorem tw2107523057676978006:True:=trivial
theorem tw17170472223608059050:True:=trivial
theorem tw1835201335921387983:True:=trivial
theorem tw16531682779099013679:True:=trivial
theorem tw7220529860990300233:True:=trivial
theorem tw15504105790966721872:True:=trivial
theorem tw12549542988036985293:True:=trivial
theorem tw16203965252921439515:True:=trivial
theorem tw7607420049574824106:True:=trivial
theorem tw2846267367221353805:True:=trivial
theorem tw6325675986683464353:True:=trivial
theorem tw86012387029904805:True:=trivial
theorem tw16723463757517087524:True:=trivial
theorem tw10510019762269167821:True:=trivial
theorem tw17435391645217708394:True:=trivial
theorem tw11823594873375168262:True:=trivial
theorem tw1915925776726481438:True:=trivial
theorem tw5449563278759341024:True:=trivial
theorem tw14746253646979254834:True:=trivial
theorem tw14022695629967993375:True:=trivial
theorem tw6798380500665416597:True:=trivial
theorem tw14811890972901180937:True:=trivial
theorem tw7900394595670775223:True:=trivial
theorem tw9223045988441327695:True:=trivial
theorem tw4382473104129494423:True:=trivial
theorem tw6984818610989830729:True:=trivial
theorem tw9972681490609642005:True:=trivial
theorem tw18095796173783872564:True:=trivial
theorem tw3433779192033484610:True:=trivial
theorem tw8757050672659960515:True:=trivial
theorem tw6125853113672642322:True:=trivial
theorem tw16422413458241162112:True:=trivial
theorem tw3652199383789512132:True:=trivial
theorem tw6046103115902281144:True:=trivial
theorem tw13757698761724263525:True:=trivial
theorem tw4565167180653195659:True:=trivial
theorem tw8115137120850386438:True:=trivial
theorem tw16721508838639397229:True:=trivial
theorem tw11263768400469242888:True:=trivial
theorem tw2597523674469684444:True:=trivial
theorem tw10698057553749749337:True:=trivial
theorem tw14845619989558847073:True:=trivial
theorem tw16753820520455620202:True:=trivial
theorem tw908480701973217441:True:=trivial
theorem tw12627051441459223148:True:=trivial
theorem tw7181997581385953548:True:=trivial
theorem tw4267111383703672358:True:=trivial
theorem tw15861351967447197489:True:=trivial
theorem tw2950685276103557050:True:=trivial
theorem tw247591363613054380:True:=trivial
theorem tw542563422162235373:True:=trivial
theorem tw17351735930882485243:True:=trivial
theorem tw694261584828832409:True:=trivial
theorem tw6714880395473160397:True:=trivial
theorem tw5694767641087392711:True:=trivial
theorem tw6508132753307246276:True:=trivial
theorem tw17397653436517662659:True:=trivial
theorem tw14196522196718054806:True:=trivial
theorem tw13931877327420345601:True:=trivial
theorem tw4046790133079468173:True:=trivial
theorem tw14520296925931582552:True:=trivial
theorem tw4548300405975405348:True:=trivial
theorem tw16298917771340976007:True:=trivial
theorem tw12747814925858328940:True:=trivial
theorem tw12542895121996172375:True:=trivial
theorem tw6651725471809605288:True:=trivial
theorem tw3328118118096588273:True:=trivial
theorem tw6420159726195949164:True:=trivial
theorem tw9215358943560890414:True:=trivial
theorem tw14736888041290939073:True:=trivial
theorem tw1474264761786122189:True:=trivial
theorem tw10958628066121416707:True:=trivial
theorem tw15142666989864626641:True:=trivial
theorem tw16654469307462801742:True:=trivial
theorem tw16003985067176294414:True:=trivial
theorem tw1956775160557780875:True:=trivial
theorem tw6631347999910079877:True:=trivial
theorem tw8760152093665844161:True:=trivial
theorem tw28018229315631829:True:=trivial
theorem tw9796564346219866840:True:=trivial
theorem tw6542358382571353910:True:=trivial
theorem tw10910644110388302437:True:=trivial
theorem tw5101696844757716304:True:=trivial
theorem tw6607644564249050058:True:=trivial
theorem tw11317637306720784765:True:=trivial
theorem tw15554417296805563061:True:=trivial
theorem tw10842938092177581297:True:=trivial
theorem tw14594842627406614536:True:=trivial
theorem tw5725222548895626118:True:=trivial
theorem tw15036080040530398195:True:=trivial
theorem tw15792790952358468732:True:=trivial
theorem tw14036186469904095446:True:=trivial
theorem tw12843764043397292189:True:=trivial
theorem tw7557421358154311045:True:=trivial
theorem tw9848817304349107530:True:=trivial
theorem tw13465540834166320765:True:=trivial
theorem tw14074196154385387334:True:=trivial
theorem tw5994696166404524948:True:=trivial
theorem tw9116068151291705539:True:=trivial
theorem tw87601786513091389:True:=trivial
theorem tw6472337539984862722:True:=trivial
theorem tw5953359166732830163:True:=trivial
theorem tw17883462748017686043:True:=trivial
theorem tw9496581404884138560:True:=trivial
theorem tw13367274342830030513:True:=trivial
theorem tw6597789921013551971:True:=trivial
theorem tw622995879521568732:True:=trivial
theorem tw6094820017090691545:True:=trivial
theorem tw10387345722656961088:True:=trivial
theorem tw17483705464198625004:True:=trivial
theorem tw1205274952441263945:True:=trivial
theorem tw9806118890596472461:True:=trivial
theorem tw13953587524928339648:True:=trivial
theorem tw5874822333441161849:True:=trivial
theorem tw14801369171006070438:True:=trivial
theorem tw10312438410070409164:True:=trivial
theorem tw16060203290454839817:True:=trivial
theorem tw1495895850433845275:True:=trivial
theorem tw7998583776865276027:True:=trivial
theorem tw10310341975313369176:True:=trivial
theorem tw5783627655825047438:True:=trivial
theorem tw8899516883271353254:True:=trivial
theorem tw2570914705882880060:True:=trivial
theorem tw8757255369765604158:True:=trivial
theorem tw18361725300881549022:True:=trivial
theorem tw18031968618487185184:True:=trivial
theorem tw354308444213283272:True:=trivial
theorem tw4211115844707057057:True:=trivial
theorem tw9919008367099125623:True:=trivial
theorem tw7091221385724896812:True:=trivial
theorem tw14172470266813156586:True:=trivial
theorem tw12396662096508845406:True:=trivial
theorem tw13437419889732721216:True:=trivial
theorem tw6900931685637148767:True:=trivial
theorem tw5992840812097835891:True:=trivial
theorem tw15173544498738437827:True:=trivial
theorem tw4186743451310774866:True:=trivial
theorem tw4906484309439969231:True:=trivial
theorem tw9252304221032618942:True:=trivial
theorem tw547895379624588593:True:=trivial
theorem tw6030501089693204938:True:=trivial
theorem tw14577027041581768965:True:=trivial
theorem tw4171853373547519906:True:=trivial
theorem tw3382625519597670723:True:=trivial
theorem tw3238445694619138142:True:=trivial
theorem tw7787813539459594420:True:=trivial
theorem tw13343918040275786880:True:=trivial
theorem tw16145670418848962200:True:=trivial
theorem tw9495317472360511255:True:=trivial
theorem tw2759284407945088205:True:=trivial
theorem tw12773500944031208451:True:=trivial
theorem tw2333531293284704758:True:=trivial
theorem tw8422229294311615681:True:=trivial
theorem tw9768418358887946270:True:=trivial
theorem tw15052318979288761249:True:=trivial
theorem tw9461912720999461741:True:=trivial
theorem tw17016834523296244275:True:=trivial
theorem tw1891733041441978011:True:=trivial
theorem tw15752536640612570366:True:=trivial
theorem tw9104974531708491489:True:=trivial
theorem tw17348111734160510231:True:=trivial
theorem tw12132596417379514657:True:=trivial
theorem tw18248855084332350957:True:=trivial
theorem tw5002640475654186023:True:=trivial
theorem tw7480016910919988345:True:=trivial
theorem tw15127105006835628225:True:=trivial
theorem tw13215348057498601715:True:=trivial
theorem tw6331431999304432861:True:=trivial
theorem tw4015202173357781934:True:=trivial
theorem tw16412085850373738351:True:=trivial
theorem tw4051853165826885262:True:=trivial
theorem tw6172094611929405055:True:=trivial
theorem tw4309217394794523951:True:=trivial
theorem tw3801850119919557013:True:=trivial
theorem tw8431482922422412695:True:=trivial
theorem tw15675013803050531044:True:=trivial
theorem tw15779231459743154856:True:=trivial
theorem tw819570635367399668:True:=trivial
theorem tw14859695947638507448:True:=trivial
theorem tw14847308668706973960:True:=trivial
theorem tw14607143338591219252:True:=trivial
theorem tw17659185236578331656:True:=trivial
theorem tw15743010393045028110:True:=trivial
theorem tw14546174082565282566:True:=trivial
theorem tw15870398105094248349:True:=trivial
theorem tw16839002366802243188:True:=trivial
theorem tw13257283266767686631:True:=trivial
theorem tw3236729772642805936:True:=trivial
theorem tw12488014758255163090:True:=trivial
theorem tw209982475168477708:True:=trivial
theorem tw8972062959192195235:True:=trivial
theorem tw7837367980739423823:True:=trivial
theorem tw11408881796089955267:True:=trivial
theorem tw6408400580700104982:True:=trivial
theorem tw6327569006664949090:True:=trivial
theorem tw12770481643036789091:True:=trivial
theorem tw6549852094080907030:True:=trivial
theorem tw10576836333797772347:True:=trivial
theorem tw13705283562680751584:True:=trivial
theorem tw3581434408401558974:True:=trivial
theorem tw4063829332388037331:True:=trivial
theorem tw1198783387198779033:True:=trivial
theorem tw3270257207059953099:True:=trivial
theorem tw16626521671886133394:True:=trivial
theorem tw8186657734068701312:True:=trivial
theorem tw16226643914720891334:True:=trivial
end PySem.W.Fast
section
open PySem PySem.W PyProof.Rows
set_option maxRecDepth 100000 in
set_option maxHeartbeats 0 in
open_top hd for PySem.Challenge.rw_tenreckon_k36_whole_rows_of_deeds
end
theorem L2.hideG{α β:Type}{I Z:α ->β ->Prop}(h:∀Z',Z'=Z ->∀a b,I a b ->Z' a b):∀a b,I a b ->Z a b:=h Z rfl
namespace L2
open PySem PySem.Spec PyProof.Rows
noncomputable abbrev Key:=Sum Int Str
noncomputable def B6c:Key ->Value ->Bool
 | .inl k,v=>Value.isInt k v
 | .inr x,v=>Value.isStrOf x v
noncomputable def J6k (w:World):Key ->Int
 | .inl k=>hashInt k
 | .inr x=>hashStr w x
theorem Y5:∀{k:Key} {v:Value},B6c k v=true ->(∃i t,k=Sum.inl i/\v=Value.int i t)\/(∃x t,k=Sum.inr x/\v=Value.str x t)
 | .inl i,v,h=>by
   obtain⟨t,e⟩:=Value.isInt_shape (k:=i) (v:=v) h
   exact .inl ⟨i,t,rfl,e⟩
 | .inr x,v,h=>by
   obtain⟨t,e⟩:=Value.isStrOf_shape (x:=x) (v:=v) h
   exact .inr ⟨x,t,rfl,e⟩
theorem C8x(i:Int)(t:Tok):B6c (.inl i) (.int i t)=true:=by simp[B6c,Value.isInt]
theorem C8y(x:Str)(t:Tok):B6c (.inr x) (.str x t)=true:=by simp[B6c,Value.isStrOf]
theorem G6b(a b:Int):decide ((Sum.inl a:Key)=Sum.inl b)=(a==b):=by
 by_cases e:a=b
 . subst e;simp
 have h:¬(Sum.inl a:Key)=Sum.inl b:=fun q=>e (Sum.inl.inj q)
 rw[decide_eq_false h]
 exact(beq_eq_false_iff_ne.mpr e).symm
theorem G6u(a b:Str):decide ((Sum.inr a:Key)=Sum.inr b)=decide (a=b):=by
 by_cases e:a=b
 . subst e;simp
 have h:¬(Sum.inr a:Key)=Sum.inr b:=fun q=>e (Sum.inr.inj q)
 rw[decide_eq_false h,decide_eq_false e]
theorem G7e(a:Int)(b:Str):decide ((Sum.inl a:Key)=Sum.inr b)=false:=decide_eq_false (fun q=>nomatch q)
theorem G7w(a:Str)(b:Int):decide ((Sum.inr a:Key)=Sum.inl b)=false:=decide_eq_false (fun q=>nomatch q)
noncomputable def Z8 (prog:Program) (w:World):PySem.KeyKind prog w Key where
 is:=B6c
 hash:=J6k w
 inj :=fun v a b ha hb=>by
   rcases Y5 ha with⟨i,t,rfl,rfl⟩|⟨x,t,rfl,rfl⟩
   . rcases Y5 hb with⟨j,u,rfl,e⟩|⟨y,u,rfl,e⟩
     . injection e with e1 _;rw[e1]
     . exact nomatch e
   . rcases Y5 hb with⟨j,u,rfl,e⟩|⟨y,u,rfl,e⟩
     . exact nomatch e
     . injection e with e1 _;rw[e1]
 byValue:=fun k v h=>by
   rcases Y5 h with⟨i,t,rfl,rfl⟩|⟨x,t,rfl,rfl⟩<;>rfl
 pyHash:=fun hv h=>by
   rcases Y5 hv with⟨i,t,rfl,rfl⟩|⟨x,t,rfl,rfl⟩
   . exact wpAny_pyHash_int h
   . exact wpAny_pyHash_str h
 eqBool:=fun hu hv h=>by
   rcases Y5 hu with⟨i,t,rfl,rfl⟩|⟨x,t,rfl,rfl⟩
   . rcases Y5 hv with⟨j,u,rfl,rfl⟩|⟨y,u,rfl,rfl⟩
     . rw[G6b] at h;exact wpAny_eqBool_int h
     . rw[G7e] at h;exact SeqAt.EqAt.int_str i t y u _ _ _ _ h
   . rcases Y5 hv with⟨j,u,rfl,rfl⟩|⟨y,u,rfl,rfl⟩
     . rw[G7w] at h;exact SeqAt.EqAt.str_int x t j u _ _ _ _ h
     . rw[G6u] at h;exact wpAny_eqBool_str h
 «strs» := fun k x t v h => by
   rcases Y5 h with⟨i,u,rfl,e⟩|⟨y,u,rfl,e⟩
   . exact nomatch e
   . injection e with e1 _
     subst e1
     cases v<;>rfl
theorem C0r(prog:Program)(w:World)(i:Int)(t:Tok):(Z8 prog w).is (.inl i) (.int i t)=true:=C8x i t
theorem C0v(prog:Program)(w:World)(x:Str)(t:Tok):(Z8 prog w).is (.inr x) (.str x t)=true:=C8y x t
inductive V where
 |non|bl (b:Bool)|int (i:Int)|str (x:Str)|byt (b:Array UInt8)|flt (b:UInt64)|ref (a:Addr)|ty (n:String)
 deriving DecidableEq
noncomputable def U7:V ->Value ->Prop
 | .non,u=>u=Value.none
 | .bl b,u=>u=Value.bool b
 | .int i,u=>∃t,u=Value.int i t
 | .str x,u=>∃t,u=Value.str x t
 | .byt b,u=>∃t,u=Value.bytes b t
 | .flt b,u=>∃t,u=Value.float b t
 | .ref a,u=>u=Value.ref a
 | .ty n,u=>u=Value.type n
noncomputable abbrev J1:List V ->List Value ->Prop:=Paired U7
theorem J1.length{xs:List V}{us:List Value}(r:J1 xs us):xs.length=us.length:=Paired.length r
theorem J1.get:∀{xs:List V} {us:List Value} {i:Nat} {x:V},J1 xs us ->xs[i]?=some x ->∃u,us[i]?=some u/\U7 x u
 |_,_,_,_,.nil,e=>by simp at e
 |_,_,0,_,.cons r _,e=>by simp at e;subst e;exact⟨_,rfl,r⟩
 | _,_,i+1,x,.cons _ t,e=>by
   obtain⟨u,h1,h2⟩:=J1.get (i:=i) (x:=x) t (by simpa using e)
   exact⟨u,by simpa using h1,h2⟩
theorem J1.append:∀{xs ys:List V} {us ws:List Value},J1 xs us ->J1 ys ws ->J1 (xs++ys) (us++ws)
 |_,_,_,_,.nil,s=>s
 |_,_,_,_,.cons r t,s=> .cons r (J1.append t s)
theorem J1.take:∀{xs:List V} {us:List Value} (n:Nat),J1 xs us ->J1 (xs.take n) (us.take n)
 |_,_,0,_=> .nil
 |_,_,_+1,.nil=> .nil
 |_,_,n+1,.cons r t=> .cons r (J1.take n t)
theorem J1.drop:∀{xs:List V} {us:List Value} (n:Nat),J1 xs us ->J1 (xs.drop n) (us.drop n)
 |_,_,0,r=>r
 |_,_,_+1,.nil=> .nil
 |_,_,n+1,.cons _ t=>J1.drop n t
noncomputable def A3x:Option V ->Option Value ->Prop
 |some v,some u=>U7 v u
 |none,none=>True
 |_,_=>False
noncomputable def KV {κ:Type}:List (κ×V) ->List (κ×Value) ->Prop:=Paired fun(p:κ×V) (q:κ×Value)=>p.1=q.1/\U7 p.2 q.2
noncomputable def kV:Key ->V
 | .inl i=> .int i
 | .inr x=> .str x
inductive HO where
 |lst (xs:List V)
 |tup (xs:List V)
 |dK (kvs:List (Key×V))|dT (kvs:List (List Key×V))
 |set (S:Int ->Bool) (n:Nat)
 |ins (C dx:Addr) (fs:List (Str×V))
 |own (x:Addr)
 |xd (fs:List (Str×V))
 |met (f x:Addr)
 |rng (lo hi:Int)
 |frz (o:Obj) (u:HO)
 |tbl (ps:Array Value)
 |ext (φ:Heap ->Prop)
noncomputable abbrev Hp:=Addr ->Option HO
noncomputable def upd (H:Hp) (a:Addr) (o:HO):Hp:=fun b=>if b=a then some o else H b
theorem A6{H:Hp}{a:Addr}{o:HO}:upd H a o a=some o:=by unfold upd;rw[if_pos rfl]
theorem D5{H:Hp}{a b:Addr}{o:HO}(h:b≠a):upd H a o b=H b:=by unfold upd;rw[if_neg h]
theorem G4b{H:Hp}{a:Addr}{o u:HO}:upd (upd H a o) a u=upd H a u:=by
 funext b;unfold upd;split<;>rfl
theorem V7{H:Hp}{a b:Addr}{o u:HO}(h:H a=some o)(h':H b=some u)(d:o≠u):a≠b:=by
 intro e;subst e;rw[h] at h';exact d (Option.some.inj h')
theorem C9{H:Hp}{a b:Addr}{o:HO}(h:H a=some o)(h':H b=none):a≠b:=by
 intro e;subst e;rw[h] at h';cases h'
section
variable(P:Program)(w:World)
noncomputable def Y4 (H:Hp) (h:Heap) (a:Addr):HO ->Prop
 | .lst xs=>xs.length<=sizeLine/\∃(its:List Value) (n:Nat),J1 xs its/\h.get? a=some {cls:= .type "list",data:= .seq its.toArray n}
 | .tup xs=>xs.length<=sizeLine/\∃its:List Value,J1 xs its/\IsTup h a its.toArray
 | .dK kvs=>kvs.length<=sizeLine/\(a==sysModules)=false/\∃vs,KV kvs vs/\h.DictOf (Z8 P w) a vs
 | .dT kvs=>kvs.length<=sizeLine/\(a==sysModules)=false/\∃xs:List (List Key×Addr×Value),
     Paired (fun(p:List Key×V) (q:List Key×Addr×Value)=>p.1=q.1/\H q.2.1=some (.tup (p.1.map kV))/\U7 p.2 q.2.2) kvs xs/\
     ∃o es ep,h.get? a=some o/\o.ExactDict/\o.data= .dict es ep/\es.toList=xs.map (entryOfKey (tupleKind (Z8 P w)))/\(xs.map (·.1)).Nodup
 | .set S n=>h.SetOf (intKind P w) a S n
 | .ins C dx fs=>H dx=some (.own a)/\fs.length<=1000/\dx≠a/\h.get? a=some (PySem.W.instObj C dx)/\
     ∃mA,h.Ns1 dx mA/\(∀f,A3x (fs.lookup f) (mA f))/\PySem.Within mA (fs.map (·.1))
 | .own _=>∃o,h.get? a=some o
 | .xd fs=>∃mA,h.Ns1 a mA/\∀f,A3x (fs.lookup f) (mA f)
 | .rng lo hi=>∃t u v,h.get? a=some {cls:= .type "range",data:= .fields #[.int lo t,.int hi u,.int 1 v]}
 | .frz o u=>h.get? a=some o/\Y4 H h a u
 | .tbl ps=>h.get? a=some {cls:= .none,data:= .fields ps}
 | .met f x=>h.get? a=some (PySem.W.methodObj (.ref f) (.ref x))
 | .ext φ=>φ h/\(∃o,h.get? a=some o)/\∀h1 h2:Heap,φ h1 ->(∀o,h1.get? a=some o ->h2.get? a=some o) ->φ h2
noncomputable def HOk (H:Hp) (h:Heap):Prop:=∀a o,H a=some o ->Y4 P w H h a o
end
section
variable{P:Program}{w:World}{H H':Hp}{h h':Heap}{a:Addr}{o:HO}
theorem Y4.lt(x:Y4 P w H h a o):a<h.objs.size:=by
 cases o with
 |lst xs=>obtain⟨_,_,_,_,e⟩:=x;exact Heap.lt_size e
 |tup xs=>obtain⟨_,_,_,p⟩:=x;exact p.lt
 |dK kvs=>obtain⟨_,_,_,_,o,_,_,e,_⟩:=x;exact Heap.lt_size e
 |dT kvs=>obtain⟨_,_,_,_,o,_,_,e,_⟩:=x;exact Heap.lt_size e
 |set S n=>obtain⟨o,_,_,_,e,_⟩:=x;exact Heap.lt_size e
 |ins C dx fs=>obtain⟨_,_,_,e,_⟩:=x;exact Heap.lt_size e
 |own y=>obtain⟨_,e⟩:=x;exact Heap.lt_size e
 |xd fs=>obtain⟨_,⟨_,_,_,e,_⟩,_⟩:=x;exact Heap.lt_size e
 |rng lo hi=>obtain⟨_,_,_,e⟩:=x;exact Heap.lt_size e
 |frz ob u=>obtain⟨e,_⟩:=x;exact Heap.lt_size e
 |tbl ps=>exact Heap.lt_size (show h.get? a=some _ from x)
 |met f y=>exact Heap.lt_size (show h.get? a=some _ from x)
 |ext φ=>obtain⟨_,⟨_,e⟩,_⟩:=x;exact Heap.lt_size e
theorem Paired.mapP{α β:Type}{F G:α ->β ->Prop}:∀{l₁:List α} {l₂:List β},Paired F l₁ l₂ ->(∀a b,F a b ->G a b) ->Paired G l₁ l₂
 |_,_,.nil,_=> .nil
 |_,_,.cons r t,f=> .cons (f _ _ r) (Paired.mapP t f)
theorem Y4.stay(x:Y4 P w H h a o)(k:∀b u,(b=a\/H b=some (.own a)) ->h.get? b=some u ->h'.get? b=some u)
   (ho:∀b,H b=some (.own a) ->H' b=some (.own a)) (ht:∀b xs,H b=some (.tup xs) ->H' b=some (.tup xs)):Y4 P w H' h' a o:=by
 induction o with
 |lst xs=>obtain⟨z,its,n,r,e⟩:=x;exact⟨z,its,n,r,k _ _ (.inl rfl) e⟩
 |tup xs=>obtain⟨z,its,r,ob,e,c⟩:=x;exact⟨z,its,r,ob,k _ _ (.inl rfl) e,c⟩
 |dK kvs=>obtain⟨z,y,vs,r,ob,es,ep,e,c⟩:=x;exact⟨z,y,vs,r,ob,es,ep,k _ _ (.inl rfl) e,c⟩
 | dT kvs=>
   obtain⟨z,y,xs,r,ob,es,ep,e,c⟩:=x
   exact⟨z,y,xs,Paired.mapP r fun p q z=>⟨z.1,ht _ _ z.2.1,z.2.2⟩,ob,es,ep,k _ _ (.inl rfl) e,c⟩
 |set S n=>obtain⟨ob,es,ep,t,e,c⟩:=x;exact⟨ob,es,ep,t,k _ _ (.inl rfl) e,c⟩
 | ins C dx fs=>
   obtain⟨d,z,ne,e,mA,⟨od,es,ep,e2,c⟩,r⟩:=x
   exact⟨ho _ d,z,ne,k _ _ (.inl rfl) e,mA,⟨od,es,ep,k _ _ (.inr d) e2,c⟩,r⟩
 |own y=>obtain⟨ob,e⟩:=x;exact⟨ob,k _ _ (.inl rfl) e⟩
 |xd fs=>obtain⟨mA,⟨od,es,ep,e,c⟩,r⟩:=x;exact⟨mA,⟨od,es,ep,k _ _ (.inl rfl) e,c⟩,r⟩
 |rng lo hi=>obtain⟨t,u,v,e⟩:=x;exact⟨t,u,v,k _ _ (.inl rfl) e⟩
 |frz ob u ih=>obtain⟨e,q⟩:=x;exact⟨k _ _ (.inl rfl) e,ih q⟩
 | tbl ps=>
   have e:h.get? a=some {cls:= .none,data:= .fields ps}:=x
   show h'.get? a=some {cls:= .none,data:= .fields ps}
   exact k a _ (.inl rfl) e
 | met f y=>
   have e:h.get? a=some (PySem.W.methodObj (.ref f) (.ref y)):=x
   show h'.get? a=some (PySem.W.methodObj (.ref f) (.ref y))
   exact k a _ (.inl rfl) e
 |ext φ=>obtain⟨p,⟨o,e⟩,st⟩:=x;exact⟨st _ _ p fun o q=>k _ _ (.inl rfl) q,⟨o,k _ _ (.inl rfl) e⟩,st⟩
theorem HOk.lt(x:HOk P w H h)(e:H a=some o):a<h.objs.size:=(x a o e).lt
theorem HOk.fresh(x:HOk P w H h)(e:h.objs.size<=a):H a=none:=by
 cases q:H a with
 |none=>rfl
 |some u=>exact absurd (Nat.lt_of_lt_of_le (x.lt q) e) (Nat.lt_irrefl _)
theorem HOk.kept(x:HOk P w H h)(k:∀b u,h.get? b=some u ->h'.get? b=some u):HOk P w H h':=fun a o e=>
 (x a o e).stay (fun b u _ q=>k b u q) (fun _ q=>q) fun _ _ q=>q
theorem HOk.laid(x:HOk P w H h)(k:∀b u,h.get? b=some u ->h'.get? b=some u)(hp:h.objs.size<=a)(new:Y4 P w (upd H a o) h' a o):HOk P w (upd H a o) h':=fun b u e=>by
 have hn:=x.fresh hp
 by_cases hb:b=a
 . subst hb;rw[A6] at e;cases e;exact new
 . rw[D5 hb] at e
   exact(x b u e).stay (fun c v _ q=>k c v q) (fun c q=>by rw[D5 (C9 q hn)];exact q) fun c xs q=>by rw[D5 (C9 q hn)];exact q
end
noncomputable def Rd (H:Hp) (a:Addr) (u:HO):Prop:=H a=some u\/∃o,H a=some (.frz o u)
theorem Rd.ok{P:Program}{w:World}{H:Hp}{h:Heap}{a:Addr}{u:HO}(r:Rd H a u)(x:HOk P w H h):Y4 P w H h a u:=by
 rcases r with r|⟨o,r⟩
 . exact x a u r
 obtain⟨_,q⟩:=x a _ r
 exact q
noncomputable def Mut:Option HO ->Prop
 |some (.lst _)=>True
 |some (.dK _)=>True
 |some (.dT _)=>True
 |some (.set _ _)=>True
 |some (.ins _ _ _)=>True
 |some (.ext _)=>True
 |_=>False
section
variable{P:Program}{w:World}{H:Hp}{h h':Heap}{x e:Addr}{o':HO}
theorem HOk.write(ok:HOk P w H h)(mu:Mut (H x))(he:e=x\/H e=some (.own x))(k:∀b u,b≠e ->h.get? b=some u ->h'.get? b=some u)(heo:∃u,h'.get? e=some u)
   (new:Y4 P w (upd H x o') h' x o'):HOk P w (upd H x o') h':=fun b u q=>by
 have nown:∀c y,H c=some (.own y) ->c≠x:=fun c y r z=>by subst z;rw[r] at mu;exact mu
 have ntup:∀c xs,H c=some (.tup xs) ->c≠x:=fun c xs r z=>by subst z;rw[r] at mu;exact mu
 by_cases hb:b=x
 . subst hb;rw[A6] at q;cases q;exact new
 . rw[D5 hb] at q
   by_cases hbe:b=e
   . have q':H b=some (.own x):=by
       rcases he with z|z
       . exact absurd (hbe.trans z) hb
       . rw[hbe];exact z
     rw[q] at q';cases q'
     obtain⟨v,hv⟩:=heo
     exact⟨v,by rw[hbe];exact hv⟩
   . refine(ok b u q).stay (fun c v hc r=>k c v ?_ r) (fun c r=>by rw[D5 (nown c b r)];exact r) fun c xs r=>by rw[D5 (ntup c xs r)];exact r
     rcases hc with rfl|hc
     . exact hbe
     . rintro rfl
       rcases he with z|z
       . exact nown c b hc z
       . rw[hc] at z;cases z;exact hb rfl
end
structure Un(fs ex:List Addr)(H H':Hp)(h h':Heap):Prop where
 keep:∀b o,h.get? b=some o ->H b=none ->b ∉ fs ->b ∉ ex ->h'.get? b=some o
 slot:∀b o,h.get? b=some o ->H b=none ->b∈fs ->b ∉ ex ->∃sl,h'.get? b=some {o with slots:=sl}
 free:∀b o,h.get? b=some o ->H b=none ->b ∉ ex ->H' b=none
 there:∀b o,h.get? b=some o ->b ∉ ex ->∃o',h'.get? b=some o'
 tups:∀b xs,H b=some (.tup xs) ->H' b=some (.tup xs)
 frzs:∀b o u,H b=some (.frz o u) ->H' b=some (.frz o u)
 tbls:∀b ps,H b=some (.tbl ps) ->∃more,H' b=some (.tbl (ps++more))
section
variable{fs fs' ex ex':List Addr}{H H1 H2:Hp}{h h1 h2 h':Heap}{a x e:Addr}{o:HO}
theorem Un.any(u:Un fs ex H H1 h h1){b:Addr}{ob:Obj}(q:h.get? b=some ob)(n:H b=none)(hx:b ∉ ex):∃sl,h1.get? b=some {ob with slots:=sl}:=by
 by_cases hb:b∈fs
 . exact u.slot b ob q n hb hx
 exact⟨ob.slots,u.keep b ob q n hb hx⟩
theorem Un.kept(k:∀b u,h.get? b=some u ->h'.get? b=some u):Un fs ex H H h h':=
 ⟨fun b ob q _ _ _=>k b ob q,fun b ob q _ _ _=>⟨ob.slots,k b ob q⟩,fun _ _ _ n _=>n,fun b ob q _=>⟨ob,k b ob q⟩,fun _ _ q=>q,fun _ _ _ q=>q,fun _ ps q=>⟨#[],by rw[q];simp⟩⟩
theorem Un.refl:Un fs ex H H h h:=Un.kept fun _ _ q=>q
theorem Un.laid(k:∀b u,h.get? b=some u ->h'.get? b=some u)(hp:h.objs.size<=a)(hn:H a=none):Un fs ex H (upd H a o) h h' where
 keep:=fun b u q _ _ _=>k b u q
 slot:=fun b u q _ _ _=>⟨u.slots,k b u q⟩
 free:=fun b u q n _=>by rw[D5 (Nat.ne_of_lt (Nat.lt_of_lt_of_le (Heap.lt_size q) hp))];exact n
 there:=fun b u q _=>⟨u,k b u q⟩
 tups:=fun b xs q=>by rw[D5 (C9 q hn)];exact q
 frzs:=fun b u xs q=>by rw[D5 (C9 q hn)];exact q
 tbls:=fun b ps q=>⟨#[],by rw[D5 (C9 q hn),q];simp⟩
theorem Un.write(mu:Mut (H x))(he:e=x\/H e=some (.own x))(k:∀b u,b≠e ->h.get? b=some u ->h'.get? b=some u)(heo:∃u,h'.get? e=some u):Un fs ex H (upd H x o) h h':=by
 have hx:∀b,H b=none ->b≠x:=fun b n z=>by subst z;rw[n] at mu;exact mu
 have hb:∀b,H b=none ->b≠e:=fun b n z=>by
   subst z
   rcases he with r|r
   . exact hx b n r
   . rw[n] at r;cases r
 have hm:∀b u,H b=some u ->¬Mut (some u) ->b≠x:=fun b u q nm z=>by subst z;rw[q] at mu;exact nm mu
 refine⟨fun b u q n _ _=>k b u (hb b n) q,fun b u q n _ _=>⟨u.slots,k b u (hb b n) q⟩,fun b u q n _=>by rw[D5 (hx b n)];exact n,fun b u q _=>?_,
   fun b xs q=>by rw[D5 (hm b _ q fun z=>z)];exact q,fun b u xs q=>by rw[D5 (hm b _ q fun z=>z)];exact q,fun b ps q=>⟨#[],by rw[D5 (hm b _ q fun z=>z),q];simp⟩⟩
 by_cases hbe:b=e
 . subst hbe;exact heo
 exact⟨u,k b u hbe q⟩
end
noncomputable def trk (h:Heap) (H:Hp):List Addr:=(List.range h.objs.size).filter fun a=>(H a).isSome
noncomputable def B7a (h:Heap) (H:Hp):Heap:=PySem.W.hideAll h (trk h H)
theorem C9g(h:Heap)(H:Hp):(B7a h H).objs.size=h.objs.size:=PySem.W.hideAll_size _ _
theorem D3t{h:Heap}{H:Hp}{b:Addr}{o:Obj}(e:h.get? b=some o)(n:H b=none):(B7a h H).get? b=some o:=
 PySem.W.hideAll_get _ e fun hm=>by
   have q:(H b).isSome=true:=(List.mem_filter.mp hm).2
   rw[n] at q;simp at q
theorem G3b{h:Heap}{H:Hp}{b:Addr}{o:Obj}(e:(B7a h H).get? b=some o):h.get? b=some o/\H b=none:=by
 have e':h.get? b=some o:=PySem.W.of_hideAll (trk h H) e
 refine⟨e',?_⟩
 cases q:H b with
 |none=>rfl
 | some x=>
   have hm:b∈trk h H:=List.mem_filter.mpr ⟨List.mem_range.mpr (Heap.lt_size e'),by simp[q]⟩
   have z:(B7a h H).get? b=none:=PySem.W.hideAll_none (trk h H) hm
   rw[z] at e;cases e
structure Mod(K:PySem.W.Frag)(mg:Str ->Option Value)(base:Heap):Prop where
 kin:K.In base
 glob:base.Ns mainGlobals mg
 blt:∃mb,base.Ns builtinsNs mb/\∀x:Str,x≠"__name__" ->mb x=bootBuiltins x
 nolimit:base.NoLimit
structure Cx where
 prog:Program
 w:World
 K:PySem.W.Frag
 mg:Str ->Option Value
 base:Heap
 A:Around
 N:List Str
 s₀:Shared
 H₀:Hp
 env:Env
 outer:List Env
 stack:List Env
 ex:List Addr
 fn:Str ->Bool
 calm:Bool
 pn:List (Addr×Obj)
 xe:Value ->Shared ->Prop
noncomputable def frs (l:List Env):List Addr:=l.filterMap (·.frame)
noncomputable abbrev Cx.fs (X:Cx):List Addr:=frs X.outer
noncomputable def Vis (sc:Scope) (x:Str):Prop:=sc.names.lookup x=some .local\/sc.names.lookup x=some .cell\/sc.names.lookup x=some .free
noncomputable def Loc (sc:Scope) (x:Str):Prop:=sc.names.lookup x=some .local\/sc.names.lookup x=some .cell
noncomputable def J1v (env:Env) (h:Heap) (m:Str ->Option Value) (x:Str) (u:Value):Prop:=
 (env.kindOf x=some .local/\m x=some u)\/((env.kindOf x=some .cell\/env.kindOf x=some .free)/\∃c,env.cells.lookup x=some c/\h.IsCell c (some u))
structure Cx.Ok(X:Cx):Prop where
 mod:Mod X.K X.mg X.base
 kind:X.env.scope.kind= .function
 glob:X.env.globals=mainGlobals
 blt:X.env.builtins=builtinsNs
 above:X.s₀.heap.objs.size<=X.env.locals
 inj:∀x y c,X.env.cells.lookup x=some c ->X.env.cells.lookup y=some c ->x=y
 has:∀x,(X.env.kindOf x=some .cell\/X.env.kindOf x=some .free) ->∃c,X.env.cells.lookup x=some c
 cab:∀x c,X.fn x=true ->X.env.cells.lookup x=some c ->X.s₀.heap.objs.size<=c
 hd:X.calm=true ->X.A.handled=none
 frames:X.A.frames=some X.stack
 stk:X.stack=X.outer\/(X.stack=X.env::X.outer/\X.env.frame=some X.env.locals)
 exf:∀b∈X.ex,b≠X.env.locals/\∀x c,X.env.cells.lookup x=some c ->c≠b
 bs:∀b o,X.base.get? b=some o ->X.s₀.heap.get? b=some o/\X.H₀ b=none
 bsz:X.base.objs.size<=X.s₀.heap.objs.size
 noex:∀b o,X.base.get? b=some o ->b ∉ X.ex
 exfs:∀b∈X.ex,b ∉ X.fs
 funs:X.s₀.heap.FunFrames X.base X.outer
 frf:∀b∈X.fs,X.H₀ b=none
structure Inv(X:Cx)(pins:List (Addr×Obj))(σ:List (Option V))(H:Hp)(s:Shared):Prop where
 ok:X.Ok
 os:s.os=X.s₀.os
 bare:AllBare s.gens
 base:Un X.fs X.ex X.H₀ H X.s₀.heap s.heap
 loc:∃m,s.heap.Ns X.env.locals m/\∀(i:Nat) (x:Str) (v:V),X.N[i]?=some x ->σ[i]?=some (some v) ->Vis X.env.scope x ->∃u,U7 v u/\J1v X.env s.heap m x u
 cell:∀x c,X.env.cells.lookup x=some c ->∃v,s.heap.IsCell c v
 free:H X.env.locals=none
 freeC:∀x c,X.env.cells.lookup x=some c ->H c=none
 pin:∀p∈X.pn++pins,s.heap.get? p.1=some p.2/\H p.1=none/\p.1≠X.env.locals/\p.1 ∉ X.fs/\∀v,p.2.data≠ .cell v
 hok:HOk X.prog X.w H s.heap
 len:σ.length=X.N.length
section
variable{X:Cx}{pins:List (Addr×Obj)}{σ:List (Option V)}{H H':Hp}{s:Shared}{h':Heap}
theorem Cx.Ok.nofr(ok:X.Ok){b:Addr}{o:Obj}(e:X.base.get? b=some o):b ∉ X.fs:=fun hb=>by
 have:=(ok.funs.mem hb).1
 rw[e] at this;cases this
theorem Inv.bs(I:Inv X pins σ H s):∀b o,X.base.get? b=some o ->s.heap.get? b=some o/\H b=none:=fun b o e=>
 ⟨I.base.keep b o (I.ok.bs b o e).1 (I.ok.bs b o e).2 (I.ok.nofr e) (I.ok.noex b o e),I.base.free b o (I.ok.bs b o e).1 (I.ok.bs b o e).2 (I.ok.noex b o e)⟩
theorem Inv.bk(I:Inv X pins σ H s):∀b o,X.base.get? b=some o ->s.heap.get? b=some o:=fun b o e=>(I.bs b o e).1
theorem Inv.mod(I:Inv X pins σ H s):Mod X.K X.mg X.base:=I.ok.mod
theorem Inv.kIn(I:Inv X pins σ H s):X.K.In s.heap:=I.ok.mod.kin.keeps I.bk
theorem Inv.lt(I:Inv X pins σ H s):X.env.locals<s.heap.objs.size:=let⟨_,hn,_⟩:=I.loc;hn.lt
theorem Inv.sz(I:Inv X pins σ H s):X.s₀.heap.objs.size<=s.heap.objs.size:=Nat.le_trans I.ok.above (Nat.le_of_lt I.lt)
theorem Inv.nofs(I:Inv X pins σ H s){a:Addr}(h:s.heap.objs.size<=a):a ∉ X.fs:=fun hb=>by
 obtain⟨_,o,ho,_⟩:=I.ok.funs.mem hb
 exact absurd (Nat.lt_of_lt_of_le (Heap.lt_size ho) (Nat.le_trans I.sz h)) (Nat.lt_irrefl _)
theorem Inv.cne(I:Inv X pins σ H s):∀x c,X.env.cells.lookup x=some c ->c≠X.env.locals:=fun x c e z=>by
 obtain⟨v,o,ho,hd⟩:=I.cell x c e
 obtain⟨m,⟨o',es,ep,ho',hd',_⟩,_⟩:=I.loc
 rw[z,ho'] at ho;cases ho;rw[hd'] at hd;cases hd
theorem Inv.funs(I:Inv X pins σ H s):s.heap.FunFrames X.base X.outer:=by
 have all:∀(l:List Env),(∀b∈frs l,b∈X.fs) ->X.s₀.heap.FunFrames X.base l ->s.heap.FunFrames X.base l:=by
   intro l
   induction l with
   |nil=>intro _ _;trivial
   | cons env r ih=>
     intro hs hl
     obtain⟨hk,⟨L,o,hf,hn,ho,hd⟩,hr⟩:=hl
     have hL:L∈X.fs:=hs L (by unfold frs;rw[List.filterMap_cons,hf];exact List.mem_cons_self)
     obtain⟨sl,e⟩:=I.base.slot L o ho (I.ok.frf L hL) hL fun z=>I.ok.exfs L z hL
     exact⟨hk,⟨L,_,hf,hn,e,hd⟩,ih (fun b hb=>hs b (by unfold frs;rw[List.filterMap_cons,hf];exact List.mem_cons_of_mem _ hb)) hr⟩
 exact all X.outer (fun _ hb=>hb) I.ok.funs
theorem Inv.stack(I:Inv X pins σ H s):s.heap.FunFrames X.base X.stack:=by
 rcases I.ok.stk with e|⟨e,hf⟩
 . rw[e];exact I.funs
 rw[e]
 obtain⟨m,hn,_⟩:=I.loc
 refine .cons (by rw[I.ok.kind];decide) hf hn ?_ I.funs
 exact Heap.get?_none_of_le (Nat.le_trans I.ok.bsz I.ok.above)
theorem Inv.stkSub(I:Inv X pins σ H s):∀b∈frs X.stack,b∈X.env.locals::X.fs:=fun b hb=>by
 rcases I.ok.stk with e|⟨e,hf⟩
 . rw[e] at hb;exact List.mem_cons_of_mem _ hb
 . rw[e] at hb
   unfold frs at hb
   rw[List.filterMap_cons,hf] at hb
   exact hb
theorem Inv.stkFree(I:Inv X pins σ H s):∀b∈frs X.stack,H b=none:=fun b hb=>by
 rcases List.mem_cons.mp (I.stkSub b hb) with e|hb
 . rw[e];exact I.free
 . obtain⟨_,o,ho,_⟩:=I.ok.funs.mem hb
   exact I.base.free b o ho (I.ok.frf b hb) fun z=>I.ok.exfs b z hb
theorem Inv.step{g':Array GenState}{t':Nat}{d':Drawn}{ch:List Addr}(I:Inv X pins σ H s)
   (hch:∀b∈ch,(b∈X.ex\/X.s₀.heap.objs.size<=b)/\b≠X.env.locals/\(∀x c,X.env.cells.lookup x=some c ->c≠b)/\∀p∈X.pn++pins,p.1≠b)
   (keep:∀b o,b≠X.env.locals ->b ∉ X.fs ->b ∉ ch ->s.heap.get? b=some o ->H b=none ->h'.get? b=some o)
   (slot:∀b o,b≠X.env.locals ->b∈X.fs ->b ∉ ch ->s.heap.get? b=some o ->H b=none ->∃sl,h'.get? b=some {o with slots:=sl}) (free:∀b o,b ∉ ch ->s.heap.get? b=some o ->H b=none ->H' b=none)
   (there:∀b o,b ∉ ch ->s.heap.get? b=some o ->∃o',h'.get? b=some o')
   (tups:∀b xs,H b=some (.tup xs) ->H' b=some (.tup xs)) (frzs:∀b o u,H b=some (.frz o u) ->H' b=some (.frz o u)) (tbls:∀b ps,H b=some (.tbl ps) ->∃more,H' b=some (.tbl (ps++more)))
   (ns:∀m,s.heap.Ns X.env.locals m ->h'.Ns X.env.locals m) (hok:HOk X.prog X.w H' h') (hg:AllBare g'):
   Inv X pins σ H' {s with heap:=h',gens:=g',drawn:=d',toks:=t'}:=by
 have neL:∀b o,X.s₀.heap.get? b=some o ->b≠X.env.locals:=fun b o e=>Nat.ne_of_lt (Nat.lt_of_lt_of_le (Heap.lt_size e) I.ok.above)
 have neC:∀b o,X.s₀.heap.get? b=some o ->b ∉ X.ex ->b ∉ ch:=fun b o e hx hb=>by
   rcases(hch b hb).1 with z|z
   . exact hx z
   . exact absurd (Nat.lt_of_lt_of_le (Heap.lt_size e) z) (Nat.lt_irrefl _)
 have cellK:∀x c,X.env.cells.lookup x=some c ->∀v,s.heap.IsCell c v ->h'.IsCell c v:=fun x c e v ⟨o,ho,hd⟩=>by
   have nch:c ∉ ch:=fun z=>(hch c z).2.2.1 x c e rfl
   by_cases hc:c∈X.fs
   . obtain⟨sl,q⟩:=slot c o (I.cne x c e) hc nch ho (I.freeC x c e)
     exact⟨_,q,hd⟩
   . exact⟨o,keep c o (I.cne x c e) hc nch ho (I.freeC x c e),hd⟩
 refine⟨I.ok,I.os,hg,⟨fun b o e n hb hx=>?_,fun b o e n hb hx=>?_,fun b o e n hx=>?_,fun b o e hx=>?_,fun b xs e=>tups b xs (I.base.tups b xs e),fun b o xs e=>frzs b o xs (I.base.frzs b o xs e),fun b ps e=>?_⟩,?_,fun x c e=>?_,?_,fun x c e=>?_,fun p hp=>?_,hok,I.len⟩
 . exact keep b o (neL b o e) hb (neC b o e hx) (I.base.keep b o e n hb hx) (I.base.free b o e n hx)
 . obtain⟨sl,e1⟩:=I.base.slot b o e n hb hx
   obtain⟨sl',e2⟩:=slot b _ (neL b o e) hb (neC b o e hx) e1 (I.base.free b o e n hx)
   exact⟨sl',e2⟩
 . obtain⟨o',e1⟩:=I.base.there b o e hx
   exact free b o' (neC b o e hx) e1 (I.base.free b o e n hx)
 . obtain⟨o',e1⟩:=I.base.there b o e hx
   exact there b o' (neC b o e hx) e1
 . obtain⟨m1,e1⟩:=I.base.tbls b ps e
   obtain⟨m2,e2⟩:=tbls b _ e1
   exact⟨m1++m2,by rw[e2,Array.append_assoc]⟩
 . obtain⟨m,hn,hl⟩:=I.loc
   refine⟨m,ns m hn,fun i x v e1 e2 e3=>?_⟩
   obtain⟨u,r,l⟩:=hl i x v e1 e2 e3
   refine⟨u,r,?_⟩
   rcases l with l|⟨k,c,e,z⟩
   . exact .inl l
   . exact .inr ⟨k,c,e,cellK x c e _ z⟩
 . obtain⟨v,z⟩:=I.cell x c e
   exact⟨v,cellK x c e v z⟩
 . obtain⟨m,⟨o,_,_,ho,_⟩,_⟩:=I.loc
   exact free _ o (fun z=>(hch _ z).2.1 rfl) ho I.free
 . obtain⟨v,o,ho,hd⟩:=I.cell x c e
   exact free c o (fun z=>(hch c z).2.2.1 x c e rfl) ho (I.freeC x c e)
 obtain⟨e,n,ne,nf,d⟩:=I.pin p hp
 have nch:p.1 ∉ ch:=fun z=>(hch p.1 z).2.2.2 p hp rfl
 exact⟨keep p.1 p.2 ne nf nch e n,free p.1 p.2 nch e n,ne,nf,d⟩
theorem Inv.un{t':Nat}(I:Inv X pins σ H s)(u:Un X.fs [] H H' s.heap h')(hok:HOk X.prog X.w H' h'):Inv X pins σ H' {s with heap:=h',toks:=t'}:=by
 obtain⟨m,⟨o,es,ep,ho,r⟩,_⟩:=id I.loc
 obtain⟨sl,hL⟩:=u.any ho I.free (by simp)
 exact I.step (g':=s.gens) (d':=s.drawn) (ch:=[]) (fun _ z=>nomatch z) (fun b o _ hb _ e n=>u.keep b o e n hb (by simp)) (fun b o _ hb _ e n=>u.slot b o e n hb (by simp)) (fun b o _ e n=>u.free b o e n (by simp)) (fun b o _ e=>u.there b o e (by simp)) u.tups u.frzs u.tbls (fun m' hm=>by
   obtain⟨o',es',ep',ho',r'⟩:=hm
   rw[ho] at ho';cases ho'
   exact⟨_,es',ep',hL,r'⟩) hok I.bare
theorem Inv.call{g':Array GenState}{t':Nat}{d':Drawn}{ch:List Addr}(I:Inv X pins σ H s)(u:Un (frs X.stack) ch H H' s.heap h')(hok:HOk X.prog X.w H' h')(hg:AllBare g')
   (hch:∀b∈ch,(b∈X.ex\/X.s₀.heap.objs.size<=b)/\b≠X.env.locals/\(∀x c,X.env.cells.lookup x=some c ->c≠b)/\∀p∈X.pn++pins,p.1≠b):
   Inv X pins σ H' {s with heap:=h',gens:=g',drawn:=d',toks:=t'}:=by
 obtain⟨m,⟨o,es,ep,ho,r⟩,_⟩:=id I.loc
 obtain⟨sl,hL⟩:=u.any ho I.free fun z=>(hch _ z).2.1 rfl
 exact I.step (ch:=ch) hch (fun b o hL hb hc e n=>u.keep b o e n (fun z=>(List.mem_cons.mp (I.stkSub b z)).elim hL hb) hc) (fun b o _ _ hc e n=>u.any e n hc) (fun b o hc e n=>u.free b o e n hc) (fun b o hc e=>u.there b o e hc) u.tups u.frzs u.tbls (fun m' hm=>by
   obtain⟨o',es',ep',ho',r'⟩:=hm
   rw[ho] at ho';cases ho'
   exact⟨_,es',ep',hL,r'⟩) hok hg
theorem Inv.turned{t':Nat}{it:Addr}(I:Inv X pins σ H s)(k:∀b o,b≠it ->s.heap.get? b=some o ->h'.get? b=some o)(hn:H it=none)(hL:it≠X.env.locals)
   (h1:it∈X.ex\/X.s₀.heap.objs.size<=it) (h2:∀x c,X.env.cells.lookup x=some c ->c≠it) (h3:∀p∈X.pn++pins,p.1≠it):Inv X pins σ H {s with heap:=h',toks:=t'}:=by
 have nit:∀b u,H b=some u ->b≠it:=fun b u e z=>by rw[z,hn] at e;cases e
 refine I.step (g':=s.gens) (d':=s.drawn) (ch:=[it]) (fun b hb=>?_) (fun b o _ _ hc e _=>k b o (fun z=>hc (by simp[z])) e) (fun b o _ _ hc e _=>⟨o.slots,k b o (fun z=>hc (by simp[z])) e⟩) (fun _ _ _ _ n=>n)
   (fun b o hc e=>⟨o,k b o (fun z=>hc (by simp[z])) e⟩) (fun _ _ e=>e) (fun _ _ _ e=>e) (fun b ps e=>⟨#[],by rw[e];simp⟩) (fun m hm=>?_) (fun b u e=>?_) I.bare
 . have e:b=it:=by simpa using hb
   subst e
   exact⟨h1,hL,h2,h3⟩
 . obtain⟨o,es,ep,ho,r⟩:=hm
   exact⟨o,es,ep,k _ o (Ne.symm hL) ho,r⟩
 refine(I.hok b u e).stay (fun c v hc q=>k c v ?_ q) (fun _ q=>q) fun _ _ q=>q
 rcases hc with z|z
 . rw[z];exact nit b u e
 exact nit c _ z
theorem Inv.tok(I:Inv X pins σ H s)(t:Nat):Inv X pins σ H {s with toks:=t}:=I.un (h':=s.heap) (t':=t) Un.refl I.hok
theorem Inv.kept{t':Nat}(I:Inv X pins σ H s)(k:∀b u,s.heap.get? b=some u ->h'.get? b=some u):Inv X pins σ H {s with heap:=h',toks:=t'}:=I.un (Un.kept k) (I.hok.kept k)
theorem Inv.laid{a:Addr}{o:HO}{t':Nat}(I:Inv X pins σ H s)(k:∀b u,s.heap.get? b=some u ->h'.get? b=some u)(hp:s.heap.objs.size<=a)(new:Y4 X.prog X.w (upd H a o) h' a o):
   Inv X pins σ (upd H a o) {s with heap:=h',toks:=t'}:=I.un (Un.laid k hp (I.hok.fresh hp)) (I.hok.laid k hp new)
theorem Inv.write{x e:Addr}{o:HO}{t':Nat}(I:Inv X pins σ H s)(mu:Mut (H x))(he:e=x\/H e=some (.own x))(k:∀b u,b≠e ->s.heap.get? b=some u ->h'.get? b=some u)(heo:∃u,h'.get? e=some u)
   (new:Y4 X.prog X.w (upd H x o) h' x o):Inv X pins σ (upd H x o) {s with heap:=h',toks:=t'}:=I.un (Un.write mu he k heo) (I.hok.write mu he k heo new)
theorem Inv.pins_of{pins':List (Addr×Obj)}(I:Inv X pins σ H s)(h:∀p∈pins',s.heap.get? p.1=some p.2/\H p.1=none/\p.1≠X.env.locals/\p.1 ∉ X.fs/\∀v,p.2.data≠ .cell v):Inv X pins' σ H s:=
 ⟨I.ok,I.os,I.bare,I.base,I.loc,I.cell,I.free,I.freeC,fun p hp=>(List.mem_append.mp hp).elim (fun z=>I.pin p (List.mem_append_left _ z)) (h p),I.hok,I.len⟩
theorem B3b{N:List Str}(hN:N.Nodup){i j:Nat}{x:Str}(a:N[i]?=some x)(b:N[j]?=some x):i=j:=by
 obtain⟨h1,e1⟩:=List.getElem?_eq_some_iff.mp a
 obtain⟨h2,e2⟩:=List.getElem?_eq_some_iff.mp b
 exact(List.getElem_inj hN).mp (e1.trans e2.symm)
theorem B5n{M:Model}{A:Around}{E:Value ->Shared ->Prop}{i:Nat}{x:Str}{v:V}{u:Value}{Q:Unit ->Shared ->Prop}(I:Inv X pins σ H s)(hN:X.N.Nodup)(hi:X.N[i]?=some x)(hx:Loc X.env.scope x)(r:U7 v u)
   (h:∀s',Inv X pins (σ.set i (some v)) H s' ->(∃a,Heap.SameBut a s.heap s'.heap/\(a=X.env.locals\/X.env.cells.lookup x=some a)) ->Q () s') (hf:X.fn x=true\/X.env.scope.names.lookup x=some .local:=by first|exact .inl rfl|exact .inr rfl|assumption):wpAny M A (storeName X.env x u) Q E s:=by
 obtain⟨m,hn,hl⟩:=id I.loc
 have hcls:(X.env.scope.kind== .class||(X.env.scope.kind== .module&&X.env.locals !=X.env.globals))=false:=by rw[I.ok.kind];rfl
 have hiσ:i<σ.length:=by rw[I.len];exact(List.getElem?_eq_some_iff.mp hi).1
 have cne:=I.cne
 have tracked:∀{a:Addr} {h':Heap},(∃o,s.heap.get? a=some o/\H a=none) ->Heap.SameBut a s.heap h' ->HOk X.prog X.w H h':=fun{a h'} ha hs b ob e=>by
   obtain⟨_,_,hfree⟩:=ha
   refine(I.hok b ob e).stay (fun c w' hc q=>(hs.2 c ?_).trans q) (fun _ q=>q) fun _ _ q=>q
   rintro rfl
   rcases hc with rfl|hc
   . rw[hfree] at e;cases e
   . rw[hfree] at hc;cases hc
 rcases hx with hk|hk
 . refine wpAny_storeName_local hk hn (fun h' hn' hs=>?_) hcls
   obtain⟨oL,_,_,hoL,_⟩:=id hn
   refine h _ ⟨I.ok,I.os,I.bare,⟨fun b o e n hb hx=>?_,fun b o e n hb hx=>?_,I.base.free,fun b o e hx=>?_,I.base.tups,I.base.frzs,I.base.tbls⟩,⟨_,hn',fun j y v' e1 e2 e3=>?_⟩,fun y c e=>?_,I.free,I.freeC,fun p hp=>?_,tracked ⟨oL,hoL,I.free⟩ hs,by simpa using I.len⟩ ⟨_,hs,.inl rfl⟩
   . exact(hs.2 b (Nat.ne_of_lt (Nat.lt_of_lt_of_le (Heap.lt_size e) I.ok.above))).trans (I.base.keep b o e n hb hx)
   . obtain⟨sl,e1⟩:=I.base.slot b o e n hb hx
     exact⟨sl,(hs.2 b (Nat.ne_of_lt (Nat.lt_of_lt_of_le (Heap.lt_size e) I.ok.above))).trans e1⟩
   . obtain⟨o',e1⟩:=I.base.there b o e hx
     exact⟨o',(hs.2 b (Nat.ne_of_lt (Nat.lt_of_lt_of_le (Heap.lt_size e) I.ok.above))).trans e1⟩
   . by_cases hj:j=i
     . subst hj
       rw[hi] at e1;cases e1
       rw[List.getElem?_set_self hiσ] at e2
       cases e2
       exact⟨u,r,.inl ⟨hk,by simp⟩⟩
     . rw[List.getElem?_set_ne (Ne.symm hj)] at e2
       obtain⟨u',r',q⟩:=hl j y v' e1 e2 e3
       refine⟨u',r',?_⟩
       rcases q with⟨k,e⟩|⟨k,c,e,z⟩
       . refine .inl ⟨k,?_⟩
         have:y≠x:=fun e=>hj (B3b hN e1 (e▸hi))
         simp[this,e]
       . exact .inr ⟨k,c,e,z.sameBut hs (cne y c e)⟩
   . obtain⟨w',z⟩:=I.cell y c e
     exact⟨w',z.sameBut hs (cne y c e)⟩
   . obtain⟨e,n,ne,nf,d⟩:=I.pin p hp
     exact⟨(hs.2 p.1 ne).trans e,n,ne,nf,d⟩
 have hfn:X.fn x=true:=by
   rcases hf with z|z
   . exact z
   . rw[z] at hk;cases hk
 obtain⟨c,hc⟩:=I.ok.has x (.inl hk)
 obtain⟨w',z⟩:=I.cell x c hc
 refine wpAny_storeName_cell I.ok.kind hk hc z (fun h' hc' hs=>?_)
 obtain⟨oc,hoc,hocd⟩:=id z
 refine h {s with heap:=h'} ⟨I.ok,I.os,I.bare,⟨fun b o e n hb hx=>?_,fun b o e n hb hx=>?_,I.base.free,fun b o e hx=>?_,I.base.tups,I.base.frzs,I.base.tbls⟩,⟨m,hn.sameBut hs (Ne.symm (cne x c hc)),fun j y v' e1 e2 e3=>?_⟩,fun y c' e=>?_,I.free,I.freeC,fun p hp=>?_,tracked ⟨oc,hoc,I.freeC x c hc⟩ hs,by simpa using I.len⟩ ⟨c,hs,.inr hc⟩
 . exact(hs.2 b (Nat.ne_of_lt (Nat.lt_of_lt_of_le (Heap.lt_size e) (I.ok.cab x c hfn hc)))).trans (I.base.keep b o e n hb hx)
 . obtain⟨sl,e1⟩:=I.base.slot b o e n hb hx
   exact⟨sl,(hs.2 b (Nat.ne_of_lt (Nat.lt_of_lt_of_le (Heap.lt_size e) (I.ok.cab x c hfn hc)))).trans e1⟩
 . obtain⟨o',e1⟩:=I.base.there b o e hx
   exact⟨o',(hs.2 b (Nat.ne_of_lt (Nat.lt_of_lt_of_le (Heap.lt_size e) (I.ok.cab x c hfn hc)))).trans e1⟩
 . by_cases hj:j=i
   . subst hj
     rw[hi] at e1;cases e1
     rw[List.getElem?_set_self hiσ] at e2
     cases e2
     exact⟨u,r,.inr ⟨.inl hk,c,hc,hc'⟩⟩
   . rw[List.getElem?_set_ne (Ne.symm hj)] at e2
     obtain⟨u',r',q⟩:=hl j y v' e1 e2 e3
     refine⟨u',r',?_⟩
     rcases q with q|⟨k,c',e,z'⟩
     . exact .inl q
     . refine .inr ⟨k,c',e,z'.sameBut hs ?_⟩
       rintro rfl
       exact hj (B3b hN e1 (I.ok.inj _ _ _ e hc▸hi))
 . by_cases hcc:c'=c
   . subst hcc;exact⟨_,hc'⟩
   . obtain⟨w2,z2⟩:=I.cell y c' e
     exact⟨w2,z2.sameBut hs hcc⟩
 obtain⟨e,n,ne,nf,d⟩:=I.pin p hp
 refine⟨(hs.2 p.1 ?_).trans e,n,ne,nf,d⟩
 intro q
 rw[q,hoc] at e
 have q':oc=p.2:=Option.some.inj e
 exact d w' (by rw[<-q'];exact hocd)
theorem A5k{M:Model}{A:Around}{E:Value ->Shared ->Prop}{i:Nat}{x:Str}{v:V}{u:Value}{Q:Unit ->Shared ->Prop}(I:Inv X pins σ H s)(hN:X.N.Nodup)(hi:X.N[i]?=some x)(hx:Loc X.env.scope x)(r:U7 v u)
   (h:∀s',Inv X pins (σ.set i (some v)) H s' ->Q () s') (hf:X.fn x=true\/X.env.scope.names.lookup x=some .local:=by first|exact .inl rfl|exact .inr rfl|assumption):wpAny M A (storeName X.env x u) Q E s:=
 B5n I hN hi hx r (fun s' I' _=>h s' I') hf
theorem Inv.call'{s':Shared}{ch:List Addr}(I:Inv X pins σ H s)(ho:s'.os=s.os)(u:Un (frs X.stack) ch H H' s.heap s'.heap)(hok:HOk X.prog X.w H' s'.heap)(hg:AllBare s'.gens)
   (hch:∀b∈ch,(b∈X.ex\/X.s₀.heap.objs.size<=b)/\b≠X.env.locals/\(∀x c,X.env.cells.lookup x=some c ->c≠b)/\∀p∈X.pn++pins,p.1≠b):Inv X pins σ H' s':=by
 obtain⟨h',g',d',t',o'⟩:=s'
 have e:o'=s.os:=ho
 subst e
 exact I.call (g':=g') (t':=t') (d':=d') u hok hg hch
end
noncomputable abbrev XK:=Value ->Option Addr ->Hp ->Prop
noncomputable abbrev St:=List (Option V)
noncomputable abbrev VK:=V ->Hp ->Prop
noncomputable abbrev TE:=St ->Hp ->VK ->Prop
noncomputable abbrev TT:=St ->Hp ->(Bool ->Hp ->Prop) ->Prop
noncomputable abbrev TA:=St ->Hp ->(List V ->Hp ->Prop) ->Prop
structure B4x where
 nx:St ->Hp ->Prop
 rt:VK
 bk:St ->Hp ->Prop:=fun _ _=>False
 ct:St ->Hp ->Prop:=fun _ _=>False
noncomputable abbrev TS:=B4x ->St ->Hp ->Prop
noncomputable def EP (X:Cx) (pins:List (Addr×Obj)) (σ:St) (Q:VK) (u:Value) (s':Shared):Prop:=∃v H',Inv X pins σ H' s'/\U7 v u/\Q v H'
noncomputable def TP (X:Cx) (pins:List (Addr×Obj)) (σ:St) (Q:Bool ->Hp ->Prop) (b:Bool) (s':Shared):Prop:=∃H',Inv X pins σ H' s'/\Q b H'
noncomputable def AP (X:Cx) (pins:List (Addr×Obj)) (σ:St) (Q:List V ->Hp ->Prop) (us:List Value) (s':Shared):Prop:=∃vs H',Inv X pins σ H' s'/\J1 vs us/\Q vs H'
noncomputable def SP (X:Cx) (pins:List (Addr×Obj)) (D:B4x) (f:Flow) (s':Shared):Prop:=
 match f with
 | .next=>∃σ' H',Inv X pins σ' H' s'/\D.nx σ' H'
 | .brk=>∃σ' H',Inv X pins σ' H' s'/\D.bk σ' H'
 | .cont=>∃σ' H',Inv X pins σ' H' s'/\D.ct σ' H'
 | .ret u=>∃v σ' H',Inv X pins σ' H' s'/\U7 v u/\D.rt v H'
noncomputable def PE (X:Cx) (e:Expr) (t:TE):Prop:=
 ∀(pins:List (Addr×Obj)) (s:Shared) (σ:St) (H:Hp) (Q:VK),Inv X pins σ H s ->t σ H Q ->wpAny (model X.prog X.w) X.A (eval e X.env) (EP X pins σ Q) X.xe s
noncomputable def PT (X:Cx) (e:Expr) (t:TT):Prop:=
 ∀(pins:List (Addr×Obj)) (s:Shared) (σ:St) (H:Hp) (Q:Bool ->Hp ->Prop),Inv X pins σ H s ->t σ H Q ->wpAny (model X.prog X.w) X.A (isTrue e X.env (eval e X.env)) (TP X pins σ Q) X.xe s
noncomputable def PW (X:Cx) (e:Expr) (t:TT):Prop:=
 ∀(whole:Sem Value) (pins:List (Addr×Obj)) (s:Shared) (σ:St) (H:Hp) (Q:Bool ->Hp ->Prop),Inv X pins σ H s ->t σ H Q ->wpAny (model X.prog X.w) X.A (isTrue e X.env whole) (TP X pins σ Q) X.xe s
theorem PW.pt{X:Cx}{e:Expr}{t:TT}(h:PW X e t):PT X e t:=h _
noncomputable def PA (X:Cx) (es:List Expr) (t:TA):Prop:=
 ∀(pos:Pos) (pins:List (Addr×Obj)) (s:Shared) (σ:St) (H:Hp) (Q:List V ->Hp ->Prop),Inv X pins σ H s ->t σ H Q ->wpAny (model X.prog X.w) X.A (spliced (backTo pos (starEach es X.env))) (AP X pins σ Q) X.xe s
noncomputable def PS (X:Cx) (st:Stmt) (t:TS):Prop:=
 ∀(pins:List (Addr×Obj)) (s:Shared) (σ:St) (H:Hp) (D:B4x),Inv X pins σ H s ->t D σ H ->wpAny (model X.prog X.w) X.A (exec st X.env) (SP X pins D) X.xe s
noncomputable def PSs (X:Cx) (st:List Stmt) (t:TS):Prop:=
 ∀(pins:List (Addr×Obj)) (s:Shared) (σ:St) (H:Hp) (D:B4x),Inv X pins σ H s ->t D σ H ->wpAny (model X.prog X.w) X.A (execs st X.env) (SP X pins D) X.xe s
theorem thn{α:Type}{t:Sem α}{Q Q':α ->Shared ->Prop}{M:Model}{A:Around}{E:Value ->Shared ->Prop}{s:Shared}(h:wpAny M A t Q E s)(hQ:∀a s,Q a s ->Q' a s):wpAny M A t Q' E s:=wpAny_mono h hQ fun _ _ x=>x
section
variable{X:Cx}
noncomputable def J0m (i:Nat):TE:=fun σ H Q=>∃v,σ[i]?=some (some v)/\Q v H
noncomputable def tC (v:V):TE:=fun _ H Q=>Q v H
theorem G7j{i:Nat}{x:Str}{pos:Pos}(hN:X.N[i]?=some x)(hv:Vis X.env.scope x)(hd:(x==("__debug__":Str))=false:=by decide)(hcd:(x==("__classdict__":Str))=false:=by decide):PE X (.Name x pos) (J0m i):=by
 intro pins s σ H Q I h
 obtain⟨v,e,h⟩:=h
 obtain⟨m,hn,hl⟩:=I.loc
 obtain⟨u,r,l⟩:=hl i x v hN e hv
 have fin:EP X pins σ Q u s:=⟨v,H,I,r,h⟩
 rcases l with⟨hk,hm⟩|⟨hk,c,hc,hcell⟩
 . exact wpAny_Name (wpAny_loadName_local I.ok.kind hk hn hm fin) hd
 rcases hk with hk|hk
 . exact wpAny_Name (wpAny_loadName_cell I.ok.kind hk hc hcell fin) hd
 exact wpAny_Name (wpAny_loadName_free I.ok.kind hk hc hcell fin hcd) hd
theorem A1{i j pos}:PE X (.Constant (.int i) j pos) (tC (.int i)):=fun _ _ _ H _ I h=>wpAny_Constant_int ⟨.int i,H,I.tok _,⟨_,rfl⟩,h⟩
theorem A2a{b j pos}:PE X (.Constant (.bool b) j pos) (tC (.bl b)):=fun _ _ _ H _ I h=>Constant_bool ⟨.bl b,H,I,rfl,h⟩
theorem G6n{j pos}:PE X (.Constant .none j pos) (tC .non):=fun _ _ _ H _ I h=>Constant_none ⟨.non,H,I,rfl,h⟩
theorem C5{x j pos}:PE X (.Constant (.str x) j pos) (tC (.str x)):=fun _ _ _ H _ I h=>Calls.Constant_str ⟨.str x,H,I.tok _,⟨_,rfl⟩,h⟩
noncomputable def Gl (X:Cx) (x:Str):Prop:=X.env.kindOf x=some .globalImplicit
theorem A1w{E:Value ->Shared ->Prop}{pins:List (Addr×Obj)}{s:Shared}{σ:St}{H:Hp}{x:Str}{u:Value}{pos:Pos}{Q:Value ->Shared ->Prop}(I:Inv X pins σ H s)(hg:Gl X x)(hm:X.mg x=some u)(h:Q u s)
   (hd:(x==("__debug__":Str))=false:=by decide):wpAny (model X.prog X.w) X.A (eval (.Name x pos) X.env) Q E s:=
 Calls.Name_function_global I.ok.kind hg (Calls.loadGlobal_global (by rw[I.ok.glob];exact I.mod.glob.keeps I.bk) hm h) hd
theorem A9q{E:Value ->Shared ->Prop}{pins:List (Addr×Obj)}{s:Shared}{σ:St}{H:Hp}{x:Str}{u:Value}{pos:Pos}{Q:Value ->Shared ->Prop}(I:Inv X pins σ H s)(hg:Gl X x)(hm:X.mg x=none)(hv:bootBuiltins x=some u)(h:Q u s)
   (hn:x≠"__name__":=by decide) (hd:(x==("__debug__":Str))=false:=by decide):wpAny (model X.prog X.w) X.A (eval (.Name x pos) X.env) Q E s:=by
 obtain⟨mb,h1,h2⟩:=I.mod.blt
 exact Calls.Name_function_global I.ok.kind hg (Calls.loadGlobal_builtin (by rw[I.ok.glob];exact I.mod.glob.keeps I.bk) hm (by rw[I.ok.blt];exact h1.keeps I.bk) ((h2 x hn).trans hv) h) hd
theorem G2c{x:Str}{v:V}{u:Value}{pos:Pos}(hg:Gl X x)(hm:X.mg x=some u)(r:U7 v u)(hd:(x==("__debug__":Str))=false:=by decide):PE X (.Name x pos) (tC v):=
 fun _ _ _ H _ I h=>A1w I hg hm ⟨v,H,I,r,h⟩ hd
theorem D9z{x:Str}{v:V}{u:Value}{pos:Pos}(hg:Gl X x)(hm:X.mg x=none)(hv:bootBuiltins x=some u)(r:U7 v u)(hn:x≠"__name__":=by decide)(hd:(x==("__debug__":Str))=false:=by decide):PE X (.Name x pos) (tC v):=
 fun _ _ _ H _ I h=>A9q I hg hm hv ⟨v,H,I,r,h⟩ hn hd
variable{a b:Expr}{ta tb:TE}{pos:Pos}
noncomputable def tB (t:TE):TT:=fun σ H Q=>t σ H fun x H1=>∃c,x= .bl c/\Q c H1
theorem V5{e:Expr}{t:TE}(h:PE X e t)(he:∀whole,isTrue e X.env whole=(do let v<-whole;standAt e.pos;holding [v] (truthy v)):=by intro _;rfl):PT X e (tB t):=by
 intro pins s σ H Q I hw
 refine isTrue_plain (thn (h pins s σ H _ I hw) fun v s1 hh_=>?_) (he _)
 obtain⟨x,H1,I1,r1,q1⟩:=hh_
 obtain⟨d,rfl,q⟩:=q1
 cases r1
 exact wpAny_truthy_bool ⟨H1,I1,q⟩
variable{tA tB':TT}{rest:List Expr}
noncomputable def J5m (t u:TT):TT:=fun σ H Q=>t σ H fun c H1=>if c=true then u σ H1 Q else Q false H1
noncomputable def tOr (t u:TT):TT:=fun σ H Q=>t σ H fun c H1=>if c=true then Q true H1 else u σ H1 Q
noncomputable def J7a (t:TT):TT:=fun σ H Q=>t σ H fun c H1=>Q (!c) H1
theorem A2e(ha:PT X a tA):PW X (.BoolOp .And [a] pos) tA:=by
 intro wh pins s σ H Q I h
 refine isTrue_and (thn (ha pins s σ H Q I h) fun c s1 e=>?_)
 cases c with
 |true=>exact isTrue_and_nil e
 |false=>exact e
theorem A5w(ha:PT X a tA):PW X (.BoolOp .Or [a] pos) tA:=by
 intro wh pins s σ H Q I h
 refine isTrue_or (thn (ha pins s σ H Q I h) fun c s1 e=>?_)
 cases c with
 |false=>exact isTrue_or_nil e
 |true=>exact e
theorem A4b(ha:PT X a tA)(hb:PW X (.BoolOp .And (b::rest) pos) tB'):PW X (.BoolOp .And (a::b::rest) pos) (J5m tA tB'):=by
 intro wh pins s σ H Q I h
 refine isTrue_and (thn (ha pins s σ H _ I h) fun c s1 ⟨H1,I1,q1⟩=>?_)
 cases c with
 |true=>exact hb wh pins s1 σ H1 Q I1 q1
 |false=>exact⟨H1,I1,q1⟩
theorem B0v(ha:PT X a tA)(hb:PW X (.BoolOp .Or (b::rest) pos) tB'):PW X (.BoolOp .Or (a::b::rest) pos) (tOr tA tB'):=by
 intro wh pins s σ H Q I h
 refine isTrue_or (thn (ha pins s σ H _ I h) fun c s1 ⟨H1,I1,q1⟩=>?_)
 cases c with
 |true=>exact⟨H1,I1,q1⟩
 |false=>exact hb wh pins s1 σ H1 Q I1 q1
theorem A3c(ha:PT X a tA):PT X (.UnaryOp .Not a pos) (J7a tA):=by
 intro pins s σ H Q I h
 exact isTrue_not (ha pins s σ H (fun c H1=>Q (!c) H1) I h)
noncomputable def J0r (ta tb:TE):TE:=fun σ H Q=>ta σ H fun x H1=>∃c,x= .bl c/\if c=true then tb σ H1 Q else Q (.bl false) H1
noncomputable def J7j (ta tb:TE):TE:=fun σ H Q=>ta σ H fun x H1=>∃c,x= .bl c/\if c=true then Q (.bl true) H1 else tb σ H1 Q
theorem A1d{op}{t:TE}(h:PE X a t):PE X (.BoolOp op [a] pos) t:=fun pins s σ H Q I hw=>BoolOp_one (h pins s σ H Q I hw)
theorem A2s(ha:PE X a ta)(hb:PE X (.BoolOp .And (b::rest) pos) tb):PE X (.BoolOp .And (a::b::rest) pos) (J0r ta tb):=by
 intro pins s σ H Q I h
 refine BoolOp_and (thn (ha pins s σ H _ I h) fun v s1 hh_=>?_)
 obtain⟨x,H1,I1,r1,q1⟩:=hh_
 obtain⟨c,rfl,q1⟩:=q1
 cases r1
 refine wpAny_truthy_bool ?_
 cases c with
 |true=>exact hb pins s1 σ H1 Q I1 q1
 |false=>exact⟨.bl false,H1,I1,rfl,q1⟩
theorem C0j(ha:PE X a ta)(hb:PE X (.BoolOp .Or (b::rest) pos) tb):PE X (.BoolOp .Or (a::b::rest) pos) (J7j ta tb):=by
 intro pins s σ H Q I h
 refine BoolOp_or (thn (ha pins s σ H _ I h) fun v s1 hh_=>?_)
 obtain⟨x,H1,I1,r1,q1⟩:=hh_
 obtain⟨c,rfl,q1⟩:=q1
 cases r1
 refine wpAny_truthy_bool ?_
 cases c with
 |false=>exact hb pins s1 σ H1 Q I1 q1
 |true=>exact⟨.bl true,H1,I1,rfl,q1⟩
noncomputable def tIf (t:TT) (ta tb:TE):TE:=fun σ H Q=>t σ H fun c H1=>if c=true then ta σ H1 Q else tb σ H1 Q
theorem V4{c:Expr}(hc:PT X c tA)(ha:PE X a ta)(hb:PE X b tb):PE X (.IfExp c a b pos) (tIf tA ta tb):=by
 intro pins s σ H Q I h
 refine wpAny_IfExp (thn (hc pins s σ H _ I h) fun d s1 ⟨H1,I1,q1⟩=>?_)
 cases d with
 |true=>exact ha pins s1 σ H1 Q I1 q1
 |false=>exact hb pins s1 σ H1 Q I1 q1
end
noncomputable def SqL (K:PySem.W.Frag) (H:Hp) (a:Addr) (xs:List V):Prop:=
 Rd H a (.lst xs)\/
   ∃(o:Obj) (its:Array Value) (n:Nat),K.lookup a=some o/\o.cls= .type "list"/\o.dict=none/\o.data= .seq its n/\its.size<=sizeLine/\J1 xs its.toList
noncomputable def SqT (K:PySem.W.Frag) (H:Hp) (a:Addr) (xs:List V):Prop:=
 Rd H a (.tup xs)\/
   ∃(o:Obj) (its:Array Value) (n:Nat),K.lookup a=some o/\o.cls= .type "tuple"/\o.data= .seq its n/\its.size<=sizeLine/\J1 xs its.toList
noncomputable def J7n:Value ->Option V
 | .none=>some .non
 | .bool b=>some (.bl b)
 | .int i _=>some (.int i)
 | .str x _=>some (.str x)
 | .bytes b _=>some (.byt b)
 | .float b _=>some (.flt b)
 | .ref a=>some (.ref a)
 | .type n=>some (.ty n)
 |_=>none
theorem U7.abs{x:V}{u:Value}(r:U7 x u):J7n u=some x:=by
 cases x with
 |non=>cases r;rfl
 |bl _=>cases r;rfl
 |int _=>obtain⟨t,rfl⟩:=r;rfl
 |str _=>obtain⟨t,rfl⟩:=r;rfl
 |byt _=>obtain⟨t,rfl⟩:=r;rfl
 |flt _=>obtain⟨t,rfl⟩:=r;rfl
 |ref _=>cases r;rfl
 |ty _=>cases r;rfl
theorem U7.inj{x y:V}{u:Value}(r:U7 x u)(q:U7 y u):x=y:=Option.some.inj (r.abs.symm.trans q.abs)
theorem J1.inj:∀{xs ys:List V} {us:List Value},J1 xs us ->J1 ys us ->xs=ys
 |_,_,_,.nil,.nil=>rfl
 |_,_,_,.cons r t,.cons r' t'=>by rw[r.inj r',J1.inj t t']
section
variable{X:Cx}{pins:List (Addr×Obj)}{σ:St}{H:Hp}{s:Shared}{a:Addr}{xs ys:List V}
theorem SqL.of{K:PySem.W.Frag}(h:H a=some (.lst xs)):SqL K H a xs:= .inl (.inl h)
theorem SqT.of{K:PySem.W.Frag}(h:H a=some (.tup xs)):SqT K H a xs:= .inl (.inl h)
theorem Inv.list(I:Inv X pins σ H s)(h:SqL X.K H a xs):∃its:List Value,J1 xs its/\PlainL s.heap a its.toArray/\xs.length<=sizeLine:=by
 rcases h with h|⟨o,its,n,hk,hc,hd,hs,hz,r⟩
 . obtain⟨z,its,n,r,e⟩:=h.ok I.hok
   exact⟨its,r,⟨_,n,e,rfl,rfl,rfl⟩,z⟩
 refine⟨its.toList,r,⟨o,n,I.kIn a o hk,hc,hd,by simpa using hs⟩,?_⟩
 have e:=r.length
 simp only[Array.length_toList] at e
 omega
theorem Inv.tuple(I:Inv X pins σ H s)(h:SqT X.K H a xs):∃its:List Value,J1 xs its/\IsTup s.heap a its.toArray/\xs.length<=sizeLine:=by
 rcases h with h|⟨o,its,n,hk,hc,hs,hz,r⟩
 . obtain⟨z,its,r,p⟩:=h.ok I.hok
   exact⟨its,r,p,z⟩
 refine⟨its.toList,r,⟨o,I.kIn a o hk,hc,n,by simpa using hs⟩,?_⟩
 have e:=r.length
 simp only[Array.length_toList] at e
 omega
theorem Inv.list_inj(I:Inv X pins σ H s)(h:SqL X.K H a xs)(h':SqL X.K H a ys):xs=ys:=by
 obtain⟨its,r,⟨o,n,e,_,_,d⟩,_⟩:=I.list h
 obtain⟨its',r',⟨o',n',e',_,_,d'⟩,_⟩:=I.list h'
 rw[e] at e';cases e'
 rw[d] at d'
 injection d' with d1 _
 have:its=its':=by simpa using congrArg Array.toList d1
 subst this
 exact r.inj r'
theorem Inv.tuple_inj(I:Inv X pins σ H s)(h:SqT X.K H a xs)(h':SqT X.K H a ys):xs=ys:=by
 obtain⟨its,r,⟨o,e,_,n,d⟩,_⟩:=I.tuple h
 obtain⟨its',r',⟨o',e',_,n',d'⟩,_⟩:=I.tuple h'
 rw[e] at e';cases e'
 rw[d] at d'
 injection d' with d1 _
 have:its=its':=by simpa using congrArg Array.toList d1
 subst this
 exact r.inj r'
end
noncomputable abbrev Cx.wish (X:Cx) (E:Value ->Shared ->Prop):Cx:={X with xe:=E}
noncomputable abbrev Cx.nox (X:Cx):Cx:=X.wish fun _ _=>False
theorem Cx.Ok.wish{X:Cx}(ok:X.Ok)(E:Value ->Shared ->Prop):(X.wish E).Ok:=
 ⟨ok.mod,ok.kind,ok.glob,ok.blt,ok.above,ok.inj,ok.has,ok.cab,ok.hd,ok.frames,ok.stk,ok.exf,ok.bs,ok.bsz,ok.noex,ok.exfs,ok.funs,ok.frf⟩
theorem Cx.Ok.unwish{X:Cx}{E:Value ->Shared ->Prop}(ok:(X.wish E).Ok):X.Ok:=
 ⟨ok.mod,ok.kind,ok.glob,ok.blt,ok.above,ok.inj,ok.has,ok.cab,ok.hd,ok.frames,ok.stk,ok.exf,ok.bs,ok.bsz,ok.noex,ok.exfs,ok.funs,ok.frf⟩
section
variable{X:Cx}{pins:List (Addr×Obj)}{σ:St}{H:Hp}{s:Shared}{E:Value ->Shared ->Prop}
theorem Inv.wish(I:Inv X pins σ H s)(E:Value ->Shared ->Prop):Inv (X.wish E) pins σ H s:=⟨I.ok.wish E,I.os,I.bare,I.base,I.loc,I.cell,I.free,I.freeC,I.pin,I.hok,I.len⟩
theorem Inv.unwish(I:Inv (X.wish E) pins σ H s):Inv X pins σ H s:=⟨I.ok.unwish,I.os,I.bare,I.base,I.loc,I.cell,I.free,I.freeC,I.pin,I.hok,I.len⟩
theorem SP.unwish{D:B4x}{f:Flow}{s':Shared}(h:SP (X.wish E) pins D f s'):SP X pins D f s':=by
 cases f with
 |next=>obtain⟨σ',H',I,q⟩:=h;exact⟨σ',H',I.unwish,q⟩
 |brk=>obtain⟨σ',H',I,q⟩:=h;exact⟨σ',H',I.unwish,q⟩
 |cont=>obtain⟨σ',H',I,q⟩:=h;exact⟨σ',H',I.unwish,q⟩
 |ret u=>obtain⟨v,σ',H',I,r,q⟩:=h;exact⟨v,σ',H',I.unwish,r,q⟩
theorem PSs.nox{st:List Stmt}{t:TS}(h:PSs X.nox st t):PSs X st t:=fun pins s σ H D I hw=>
 wpAny_mono (h pins s σ H D (I.wish _) hw) (fun _ _ q=>q.unwish) fun _ _ z=>False.elim z
end
section
variable{X:Cx}{st:Stmt}{rest:List Stmt}{t u:TS}{e:Expr}{te:TE}{pos:Pos}
noncomputable def J2f:TS:=fun D σ H=>D.nx σ H
noncomputable def D2y (t u:TS):TS:=fun D σ H=>t {D with nx:=u D} σ H
theorem C6:PSs X [] J2f:=fun _ _ σ H _ I h=>wpAny_execs_nil ⟨σ,H,I,h⟩
theorem A4(h1:PS X st t)(h2:PSs X rest u):PSs X (st::rest) (D2y t u):=by
 intro pins s σ H D I h
 refine wpAny_execs_cons (thn (h1 pins s σ H {D with nx:=u D} I h) fun f s1 q=>?_)
 cases f with
 | next=>
   obtain⟨σ',H',I',q⟩:=q
   exact h2 pins s1 σ' H' D I' q
 |ret v=>exact q
 |brk=>exact q
 |cont=>exact q
theorem A5(h1:PS X st t):PSs X [st] t:=by
 intro pins s σ H D I h
 refine wpAny_execs_cons (thn (h1 pins s σ H D I h) fun f s1 q=>?_)
 cases f with
 |next=>exact wpAny_execs_nil q
 |ret v=>exact q
 |brk=>exact q
 |cont=>exact q
theorem Inv.quiet{pins:List (Addr×Obj)}{σ:St}{H:Hp}{s:Shared}(I:Inv X pins σ H s):interactive X.env=false:=by simp[interactive,I.ok.kind]
noncomputable def J3s (te:TE):TS:=fun D σ H=>te σ H fun _ H1=>D.nx σ H1
theorem U9(he:PE X e te)(hs:swapsWith e none pos.line X.env=pure false:=by rfl):PS X (.Expr e pos) (J3s te):=by
 intro pins s σ H D I h
 exact wpAny_Expr_any (thn (he pins s σ H _ I h) fun v s1 ⟨x,H1,I1,r1,q1⟩=>⟨σ,H1,I1,q1⟩) I.quiet hs
noncomputable def J6w (te:TE):TS:=fun D σ H=>te σ H D.rt
theorem B0(he:PE X e te):PS X (.Return (some e) pos) (J6w te):=by
 intro pins s σ H D I h
 exact wpAny_Return_some (thn (he pins s σ H _ I h) fun v s1 ⟨x,H1,I1,r1,q1⟩=>⟨x,σ,H1,I1,r1,q1⟩)
noncomputable def J5x (c:TT) (t u:TS):TS:=fun D σ H=>c σ H fun b H1=>if b=true then t D σ H1 else u D σ H1
theorem D9{c:Expr}{a b:List Stmt}{tc:TT}(hc:PT X c tc)(ha:PSs X a t)(hb:PSs X b u):PS X (.If c a b pos) (J5x tc t u):=by
 intro pins s σ H D I h
 refine wpAny_If (thn (hc pins s σ H _ I h) fun d s1 ⟨H1,I1,q1⟩=>?_)
 cases d with
 |true=>exact ha pins s1 σ H1 D I1 q1
 |false=>exact hb pins s1 σ H1 D I1 q1
end
noncomputable abbrev TG:=V ->St ->Hp ->(St ->Hp ->Prop) ->Prop
noncomputable abbrev TGs:=List V ->St ->Hp ->(St ->Hp ->Prop) ->Prop
noncomputable def PG (X:Cx) (target:Expr) (t:TG):Prop:=
 ∀ (pins:List (Addr×Obj)) (s:Shared) (σ:St) (H:Hp) (v:V) (u:Value) (Q:St ->Hp ->Prop),Inv X pins σ H s ->U7 v u ->t v σ H Q ->
   wpAny (model X.prog X.w) X.A (assign target X.env u) (fun _ s'=>∃σ' H',Inv X pins σ' H' s'/\Q σ' H') X.xe s
noncomputable def PGs (X:Cx) (ts:List Expr) (t:TGs):Prop:=
 ∀ (pins:List (Addr×Obj)) (s:Shared) (σ:St) (H:Hp) (vs:List V) (us:List Value) (Q:St ->Hp ->Prop),Inv X pins σ H s ->J1 vs us ->t vs σ H Q ->
   wpAny (model X.prog X.w) X.A (assignInOrder ((assignEach ts X.env).map (·.2)) us) (fun _ s'=>∃σ' H',Inv X pins σ' H' s'/\Q σ' H') X.xe s
noncomputable abbrev TIp:=V ->V ->Hp ->VK ->Prop
noncomputable def PIp (X:Cx) (op:Operator) (t:TIp):Prop:=
 ∀ (pins:List (Addr×Obj)) (s:Shared) (σ:St) (H:Hp) (x y:V) (v u:Value) (Q:VK),Inv X pins σ H s ->U7 x v ->U7 y u ->t x y H Q ->
   wpAny (model X.prog X.w) X.A (inplaceOp op v u) (EP X pins σ Q) X.xe s
section
variable{X:Cx}{pos:Pos}
noncomputable def C6g (i:Nat):TG:=fun v σ H Q=>Q (σ.set i (some v)) H
theorem U1{i:Nat}{x:Str}(hN:X.N.Nodup)(hi:X.N[i]?=some x)(hx:Loc X.env.scope x)(hf:X.fn x=true\/X.env.scope.names.lookup x=some .local:=by first|exact .inl rfl|exact .inr rfl|assumption):PG X (.Name x pos) (C6g i):=by
 intro pins s σ H v u Q I r h
 exact wpAny_assign_Name (A5k I hN hi hx r (fun s' I'=>⟨_,H,I',h⟩) hf)
noncomputable def J5f:TGs:=fun vs σ H Q=>vs=[]/\Q σ H
noncomputable def J1j (t:TG) (u:TGs):TGs:=fun vs σ H Q=>∃v r,vs=v::r/\t v σ H fun σ' H'=>u r σ' H' Q
theorem A2x:PGs X [] J5f:=by
 intro pins s σ H vs us Q I r h
 obtain⟨e,h⟩:=h
 subst e
 cases r
 exact assignInOrder_nil ⟨σ,H,I,h⟩
theorem U8{e:Expr}{es:List Expr}{t:TG}{u:TGs}(h1:PG X e t)(h2:PGs X es u)
   (hs:(assignEach (e::es) X.env).map (·.2)=assign e X.env::(assignEach es X.env).map (·.2):=by rfl):PGs X (e::es) (J1j t u):=by
 intro pins s σ H vs us Q I r h
 obtain⟨v,vr,e1,h⟩:=h
 subst e1
 cases r with
 | cons r rr=>
   rw[hs]
   refine assignInOrder_cons (thn (h1 pins s σ H _ _ _ I r h) fun _ s1 hh_=>?_)
   obtain⟨σ1,H1,I1,q1⟩:=hh_
   exact h2 pins s1 σ1 H1 _ _ Q I1 rr q1
noncomputable def G8b (K:PySem.W.Frag) (n:Nat) (t:TGs):TG:=fun v σ H Q=>∃a xs,v= .ref a/\SqT K H a xs/\xs.length=n/\t xs σ H Q
theorem A7b{es:List Expr}{k:Nat}{t:TGs}{n:Nat}(hc:X.calm=true)(h:PGs X es t)
   (hn:(assignEach es X.env).length=n:=by rfl) (hst:(assignEach es X.env).findIdx? (·.1)=none:=by rfl):PG X (.Tuple es k pos) (G8b X.K n t):=by
 intro pins s σ H v u Q I r hw
 obtain⟨a,xs,e1,hq,hl,hw⟩:=hw
 subst e1
 cases r
 obtain⟨its,rv,ht,hz⟩:=I.tuple hq
 refine assign_Tuple_tuple (I.ok.hd hc) ht (by simp[hn, <-hl,rv.length]) hst fun h' hx=>?_
 have I1:Inv X pins σ H {s with heap:=h'}:=I.kept (t':=s.toks) fun b o e=>hx b o (Nat.ne_of_lt (Heap.lt_size e)) e
 exact h pins _ σ H xs _ Q I1 (by simpa using rv) hw
noncomputable def G7m (te:TE) (g:TG):TS:=fun D σ H=>te σ H fun x H1=>g x σ H1 D.nx
theorem A7j{tg e:Expr}{te:TE}{g:TG}(he:PE X e te)(hg:PG X tg g)(hs:swapsWithSole [tg] e pos.line X.env=pure false:=by rfl)(hw:swappedStores [tg] e X.env=pure none:=by rfl)
   (h1:(assignEach [tg] X.env).map (·.2)=[assign tg X.env]:=by rfl):PS X (.Assign [tg] e pos) (G7m te g):=by
 intro pins s σ H D I h
 refine wpAny_Assign_stores (thn (he pins s σ H _ I h) fun v s1 hh_=>?_) hs hw
 obtain⟨x,H1,I1,r1,q1⟩:=hh_
 rw[h1]
 exact thn (hg pins s1 σ H1 x v _ I1 r1 q1) fun _ s2 q=>q
theorem D0{i:Nat}{x:Str}{e:Expr}{te:TE}{pos':Pos}(hN:X.N.Nodup)(hi:X.N[i]?=some x)(hx:Loc X.env.scope x)(he:PE X e te)(hs:swapsWith e (some (.Name x pos')) pos.line X.env=pure false:=by rfl)(hf:X.fn x=true\/X.env.scope.names.lookup x=some .local:=by first|exact .inl rfl|exact .inr rfl|assumption):
   PS X (.Assign [.Name x pos'] e pos) (G7m te (C6g i)):=by
 intro pins s σ H D I h
 refine wpAny_Assign_Name (thn (he pins s σ H _ I h) fun v s1 hh_=>?_) hs
 obtain⟨y,H1,I1,r1,q1⟩:=hh_
 exact A5k I1 hN hi hx r1 (fun s2 I2=>⟨_,H1,I2,q1⟩) hf
noncomputable def J5e (i:Nat) (te:TE) (ti:TIp):TS:=fun D σ H=>∃x,σ[i]?=some (some x)/\te σ H fun y H1=>ti x y H1 fun z H2=>D.nx (σ.set i (some z)) H2
theorem G5a{i:Nat}{x:Str}{e:Expr}{te:TE}{op:Operator}{ti:TIp}{pos':Pos}(hN:X.N.Nodup)(hi:X.N[i]?=some x)(hx:Loc X.env.scope x)(he:PE X e te)(ho:PIp X op ti)(hf:X.fn x=true\/X.env.scope.names.lookup x=some .local:=by first|exact .inl rfl|exact .inr rfl|assumption):
   PS X (.AugAssign (.Name x pos') op e pos) (J5e i te ti):=by
 intro pins s σ H D I h
 obtain⟨v,e1,h⟩:=h
 obtain⟨m,hn,hl⟩:=I.loc
 have vis:Vis X.env.scope x:=by rcases hx with k|k;exact .inl k;exact .inr (.inl k)
 obtain⟨u,r,l⟩:=hl i x v hi e1 vis
 refine wpAny_AugAssign_Name ?_
 have go:wpAny (model X.prog X.w) X.A (eval e X.env) (fun w s₂=>wpAny (model X.prog X.w) X.A (inplaceOp op u w) (fun r s₃=>wpAny (model X.prog X.w) X.A (storeName X.env x r) (fun _=>SP X pins D .next) X.xe s₃) X.xe s₂) X.xe s:=by
   refine thn (he pins s σ H _ I h) fun w s1 hh_=>?_
   obtain⟨y,H1,I1,r1,q1⟩:=hh_
   refine thn (ho pins s1 σ H1 v y u w _ I1 r r1 q1) fun z s2 hh_=>?_
   obtain⟨zv,H2,I2,r2,q2⟩:=hh_
   exact A5k I2 hN hi hx r2 (fun s3 I3=>⟨_,H2,I3,q2⟩) hf
 rcases l with⟨hk,hm⟩|⟨hk,c,hc,hcell⟩
 . exact wpAny_loadName_local I.ok.kind hk hn hm go
 rcases hk with hk|hk
 . exact wpAny_loadName_cell I.ok.kind hk hc hcell go
 rcases hx with k|k
 . have:X.env.scope.names.lookup x=some .free:=hk
   rw[k] at this;cases this
 have:X.env.scope.names.lookup x=some .free:=hk
 rw[k] at this;cases this
noncomputable def ipI (f:Int ->Int ->Int):TIp:=fun x y H Q=>∃i j,x= .int i/\y= .int j/\Q (.int (f i j)) H
theorem G8d:PIp X .Add (ipI fun i j=>i+j):=by
 intro pins s σ H x y v u Q I r1 r2 h
 obtain⟨i,j,e1,e2,q⟩:=h
 subst e1;subst e2
 obtain⟨t,rfl⟩:=r1
 obtain⟨t',rfl⟩:=r2
 exact iadd_int ⟨.int _,H,I.tok _,⟨_,rfl⟩,q⟩
end
section
variable{X:Cx}{pos:Pos}
noncomputable def C9n (c:TT) (tb:TS):TS:=fun D σ H=>∃W:Nat ->St ->Hp ->Prop,(∃m,W m σ H)/\∀m σ H,W m σ H ->
 c σ H fun b H1=>if b=true then∃N:St ->Hp ->Prop,(∀σ' H',N σ' H' ->∃m',m'<m/\W m' σ' H')/\tb {D with nx:=N,ct:=N,bk:=D.nx} σ H1 else D.nx σ H1
theorem A1y{c:Expr}{body:List Stmt}{tc:TT}{tb:TS}(hp:PassesOwn (model X.prog X.w) X.A X.env X.xe)(hc:PT X c tc)(hb:PSs X body tb):PS X (.While c body [] pos) (C9n tc tb):=by
 intro pins s σ H D I h
 obtain⟨W,⟨m0,w0⟩,turn⟩:=h
 refine wpAny_While (codeAny_whileLoop (fun n s'=>∃σ' H',Inv X pins σ' H' s'/\W n σ' H') ?_ m0 ⟨σ,H,I,w0⟩)
 rintro n s1 ⟨σ1,H1,I1,w1⟩
 refine wpAny_passesOwn hp (thn (hc pins s1 σ1 H1 _ I1 (turn n σ1 H1 w1)) fun b s2 ⟨H2,I2,q2⟩=>?_)
 cases b with
 | true=>
   obtain⟨N,hN,q2⟩:=q2
   rw[if_pos rfl]
   refine wpAny_passesOwn hp (thn (hb pins s2 σ1 H2 _ I2 q2) fun f s3 q3=>?_)
   cases f with
   | next=>
     obtain⟨σ3,H3,I3,n3⟩:=q3
     obtain⟨m',hm,w3⟩:=hN σ3 H3 n3
     exact⟨m',hm,σ3,H3,I3,w3⟩
   | cont=>
     obtain⟨σ3,H3,I3,n3⟩:=q3
     obtain⟨m',hm,w3⟩:=hN σ3 H3 n3
     exact⟨m',hm,σ3,H3,I3,w3⟩
   |brk=>exact q3
   |ret v=>exact q3
 | false=>
   rw[if_neg Bool.false_ne_true]
   exact wpAny_execs_nil ⟨σ1,H2,I2,q2⟩
end
structure It where
 go:Nat ->Hp ->Prop
 yld:Nat ->Hp ->V ->Hp ->Prop
 stop:Nat ->Hp ->Prop
noncomputable def A5q (X:Cx) (pins:List (Addr×Obj)) (H:Hp) (b:Addr):Prop:=
 H b=none/\b≠X.env.locals/\b ∉ X.fs/\(b∈X.ex\/X.s₀.heap.objs.size<=b)/\(∀x c,X.env.cells.lookup x=some c ->c≠b)/\∀p∈X.pn++pins,p.1≠b
theorem Inv.fpOk{X:Cx}{pins:List (Addr×Obj)}{σ:St}{H H':Hp}{s:Shared}{b:Addr}(I:Inv X pins σ H s)(hb:s.heap.objs.size<=b)(hn:H' b=none):A5q X pins H' b:=by
 refine⟨hn,Nat.ne_of_gt (Nat.lt_of_lt_of_le I.lt hb),I.nofs hb,.inr (Nat.le_trans I.sz hb),fun x c e z=>?_,fun p hp z=>?_⟩
 . obtain⟨v,q⟩:=I.cell x c e
   exact absurd (Nat.lt_of_lt_of_le q.lt (by rw[z];exact hb)) (Nat.lt_irrefl _)
 exact absurd (Nat.lt_of_lt_of_le (Heap.lt_size (I.pin p hp).1) (by rw[z];exact hb)) (Nat.lt_irrefl _)
structure C9h(P:Program)(w:World)(K:PySem.W.Frag)(tg:Expr)(J:It)(fp:List Addr)(it:Addr)(tn:Nat ->Heap ->Prop):Prop where
 mem:it∈fp
 obj:∀i h,tn i h ->∀b∈fp,∃o,h.get? b=some o/\∀v,o.data≠ .cell v
 keep:∀i h h',tn i h ->(∀b∈fp,∀o,h.get? b=some o ->h'.get? b=some o) ->tn i h'
 item:∀(X:Cx),X.prog=P ->X.w=w ->X.K=K ->X.calm=true ->∀(i:Nat) (pins:List (Addr×Obj)) (s:Shared) (σ:St) (H:Hp) (E:Value ->Shared ->Prop),Inv X pins σ H s ->(∀b∈fp,A5q X pins H b) ->tn i s.heap ->J.go i H ->
   wpAny (model P w) X.A (pyNext (.ref it)) (fun r s1=>∃u,r=some u/\
     wpAny (model P w) X.A (letOwnedTupleGo tg (.ref it) u) (fun _ s2=>∃x H',Inv X pins σ H' s2/\U7 x u/\J.yld i H x H'/\tn (i+1) s2.heap/\∀b∈fp,H' b=none) E s1) E s
 done:∀(X:Cx),X.prog=P ->X.w=w ->X.K=K ->X.calm=true ->∀(i:Nat) (pins:List (Addr×Obj)) (s:Shared) (σ:St) (H:Hp) (E:Value ->Shared ->Prop),Inv X pins σ H s ->(∀b∈fp,A5q X pins H b) ->tn i s.heap ->J.stop i H ->
   wpAny (model P w) X.A (pyNext (.ref it)) (fun r s1=>r=none/\Inv X pins σ H s1) E s
 self:∀(A:Around) (i:Nat) (s:Shared) (Q:Value ->Shared ->Prop) (E:Value ->Shared ->Prop),tn i s.heap ->Q (.ref it) s ->wpAny (model P w) A (pyIter (.ref it)) Q E s
noncomputable abbrev TI:=St ->Hp ->(It ->Hp ->Prop) ->Prop
noncomputable def PIE (X:Cx) (pins:List (Addr×Obj)) (σ:St) (tg:Expr) (R:It ->Hp ->Prop) (itv:Value) (s2:Shared):Prop:=
 ∃(it:Addr) (fp:List Addr) (tn:Nat ->Heap ->Prop) (J:It) (H':Hp),itv= .ref it/\Inv X pins σ H' s2/\C9h X.prog X.w X.K tg J fp it tn/\tn 0 s2.heap/\(∀b∈fp,A5q X pins H' b)/\R J H'
noncomputable def PI (X:Cx) (tg iter:Expr) (wi:TI):Prop:=
 ∀ (pins:List (Addr×Obj)) (s:Shared) (σ:St) (H:Hp) (R:It ->Hp ->Prop),Inv X pins σ H s ->wi σ H R ->
   wpAny (model X.prog X.w) X.A (eval iter X.env) (fun v s1=>wpAny (model X.prog X.w) X.A (pyIter v) (PIE X pins σ tg R) X.xe s1) X.xe s
theorem C3x{M:Model}{A:Around}{E:Value ->Shared ->Prop}{s:Shared}{tg:Expr}{it:Addr}{u:Value}{o:Obj}{n:String}{vs:Array Value}{Q:Unit ->Shared ->Prop}(ho:s.heap.get? it=some o)(hc:o.cls= .type n)(hd:o.data= .fields vs)
   (hn: ["enumerate","zip","dict_itemiterator","dict_reverseitemiterator","odict_iterator","itertools.zip_longest","itertools.pairwise"].contains n=false) (hQ:Q () s):wpAny M A (letOwnedTupleGo tg (.ref it) u) Q E s:=by
 unfold letOwnedTupleGo
 cases tg <;>first
   |exact wpAny_pure hQ
   |(cases u<;>first
       |exact wpAny_pure hQ
       | (refine wpAny_bind (wpAny_load ho ?_)
          rw[hc,hd]
          show wpAny M A (if(["enumerate","zip","dict_itemiterator","dict_reverseitemiterator","odict_iterator","itertools.zip_longest","itertools.pairwise"].contains n&&vs[0]?==some (rawInt _))=true then _ else _) Q E s
          rw[if_neg (by intro h;rw[hn,Bool.false_and] at h;cases h)]
          exact wpAny_pure hQ))
noncomputable def Itl (K:PySem.W.Frag) (a:Addr):It:=
 ⟨fun i H=>∃xs x,SqL K H a xs/\xs[i]?=some x,fun i H x H'=>H'=H/\∀xs,SqL K H a xs ->xs[i]?=some x,fun i H=>∃xs,SqL K H a xs/\xs.length<=i⟩
noncomputable def Itt (K:PySem.W.Frag) (a:Addr):It:=
 ⟨fun i H=>∃xs x,SqT K H a xs/\xs[i]?=some x,fun i H x H'=>H'=H/\∀xs,SqT K H a xs ->xs[i]?=some x,fun i H=>∃xs,SqT K H a xs/\xs.length<=i⟩
noncomputable def Itr (lo:Int) (n:Nat):It:=⟨fun i _=>i<n,fun i H x H'=>H'=H/\x= .int (lo+i),fun i _=>n<=i⟩
theorem C7x{P:Program}{w:World}{K:PySem.W.Frag}{tg:Expr}(a it:Addr):C9h P w K tg (Itl K a) [it] it (fun i h=>h.IsListIter it a i) where
 mem:=by simp
 obj:=fun i h st b hb=>by
   have e:b=it:=by simpa using hb
   subst e
   obtain⟨o,e,c,d⟩:=st
   exact⟨o,e,fun v z=>by rw[d] at z;cases z⟩
 keep:=fun i h h' st k=>st.at fun o e=>k it (by simp) o e
 item:=by
   intro X hP hw hK hc i pins s σ H E I hf st hg
   subst hP hw hK
   obtain⟨xs,x,hq,hx⟩:=hg
   obtain⟨its,rv,p,hz⟩:=I.list hq
   obtain⟨u,hu,ru⟩:=rv.get hx
   obtain⟨f0,f1,f2,f3,f4,f5⟩:=hf it (by simp)
   refine wpAny_pyNext_list_item st p.isList (x:=u) (by simpa using hu) fun h' st' sb=>?_
   have I1:Inv X pins σ H {s with heap:=h'}:=I.turned (t':=s.toks) (fun b o hb e=>(sb.2 b hb).trans e) f0 f1 f3 f4 f5
   obtain⟨o,e,c,d⟩:=id st'
   exact⟨u,rfl,C3x (s:={s with heap:=h'}) e c d (by decide) ⟨x,H,I1,ru,⟨rfl,fun ys hy=>by rw[I.list_inj hy hq];exact hx⟩,st',fun b hb=>(hf b hb).1⟩⟩
 done:=by
   intro X hP hw hK hc i pins s σ H E I hf st hg
   subst hP hw hK
   obtain⟨xs,hq,hx⟩:=hg
   obtain⟨its,rv,p,hz⟩:=I.list hq
   obtain⟨f0,f1,f2,f3,f4,f5⟩:=hf it (by simp)
   have hl:=rv.length
   exact wpAny_pyNext_list_end (I.ok.hd hc) st p.isList (by simp;omega) fun h' eb=>⟨rfl,I.turned (t':=s.toks) (fun b o hb e=>eb b o hb e) f0 f1 f3 f4 f5⟩
 self:=fun _ _ _ _ _ st h=>wpAny_pyIter_listiter st h
theorem C2u{P:Program}{w:World}{K:PySem.W.Frag}{tg:Expr}(a it:Addr):C9h P w K tg (Itt K a) [it] it (fun i h=>h.IsTupleIter it a i) where
 mem:=by simp
 obj:=fun i h st b hb=>by
   have e:b=it:=by simpa using hb
   subst e
   obtain⟨o,e,c,d⟩:=st
   exact⟨o,e,fun v z=>by rw[d] at z;cases z⟩
 keep:=fun i h h' st k=>st.at fun o e=>k it (by simp) o e
 item:=by
   intro X hP hw hK hc i pins s σ H E I hf st hg
   subst hP hw hK
   obtain⟨xs,x,hq,hx⟩:=hg
   obtain⟨its,rv,p,hz⟩:=I.tuple hq
   obtain⟨u,hu,ru⟩:=rv.get hx
   obtain⟨f0,f1,f2,f3,f4,f5⟩:=hf it (by simp)
   refine wpAny_pyNext_tuple_item st (show s.heap.IsTuple a its.toArray from p) (x:=u) (by simpa using hu) fun h' st' sb=>?_
   have I1:Inv X pins σ H {s with heap:=h'}:=I.turned (t':=s.toks) (fun b o hb e=>(sb.2 b hb).trans e) f0 f1 f3 f4 f5
   obtain⟨o,e,c,d⟩:=id st'
   exact⟨u,rfl,C3x (s:={s with heap:=h'}) e c d (by decide) ⟨x,H,I1,ru,⟨rfl,fun ys hy=>by rw[I.tuple_inj hy hq];exact hx⟩,st',fun b hb=>(hf b hb).1⟩⟩
 done:=by
   intro X hP hw hK hc i pins s σ H E I hf st hg
   subst hP hw hK
   obtain⟨xs,hq,hx⟩:=hg
   obtain⟨its,rv,p,hz⟩:=I.tuple hq
   obtain⟨f0,f1,f2,f3,f4,f5⟩:=hf it (by simp)
   have hl:=rv.length
   exact wpAny_pyNext_tuple_end (I.ok.hd hc) st (show s.heap.IsTuple a its.toArray from p) (by simp;omega) fun h' eb=>⟨rfl,I.turned (t':=s.toks) (fun b o hb e=>eb b o hb e) f0 f1 f3 f4 f5⟩
 self:=fun _ _ _ _ _ st h=>wpAny_pyIter_tupleiter st h
theorem C2v{P:Program}{w:World}{K:PySem.W.Frag}{tg:Expr}(it:Addr)(lo:Int)(n:Nat):C9h P w K tg (Itr lo n) [it] it (fun i h=>IsRangeIter h it (lo+(i:Nat)*1) ((n:Int)- (i:Nat)) 1) where
 mem:=by simp
 obj :=fun i h st b hb=>by
   have e:b=it:=by simpa using hb
   subst e
   exact⟨_,st,fun v z=>by
     have z':Data.fields _=Data.cell v:=z
     cases z'⟩
 keep:=fun i h h' st k=>k it (by simp) _ st
 item:=by
   intro X hP hw hK hc i pins s σ H E I hf st hg
   subst hP hw hK
   obtain⟨f0,f1,f2,f3,f4,f5⟩:=hf it (by simp)
   have W:=Walks.range (prog:=X.prog) (w:=X.w) (I.ok.hd hc) it lo 1 n
   refine W.item i s _ _ hg st fun v h' tk hv st' kk=>?_
   obtain⟨t,rfl⟩:=hv
   have I1:Inv X pins σ H {s with heap:=h',toks:=tk}:=I.turned (fun b o hb e=>kk b o (by simpa using hb) e) f0 f1 f3 f4 f5
   refine⟨_,rfl,C3x (s:={s with heap:=h',toks:=tk}) (n:="range_iterator") st' rfl rfl (by decide) ⟨.int (lo+i),H,I1,⟨t,?_⟩,⟨rfl,rfl⟩,st',fun b hb=>(hf b hb).1⟩⟩
   rw[Int.mul_one]
 done:=by
   intro X hP hw hK hc i pins s σ H E I hf st hg
   subst hP hw hK
   obtain⟨f0,f1,f2,f3,f4,f5⟩:=hf it (by simp)
   exact wpAny_pyNext_range_end (I.ok.hd hc) st (by have:n<=i:=hg;omega) fun h' eb=>⟨rfl,I.turned (t':=s.toks) (fun b o hb e=>eb b o hb e) f0 f1 f3 f4 f5⟩
 self:=fun _ _ _ _ _ st h=>wpAny_pyIter_rangeiter st h
section
variable{X:Cx}{tg:Expr}
noncomputable def J3q (K:PySem.W.Frag) (tl:TE):TI:=fun σ H R=>tl σ H fun x H1=>∃a,x= .ref a/\(∃xs,SqL K H1 a xs)/\R (Itl K a) H1
noncomputable def J2m (K:PySem.W.Frag) (tl:TE):TI:=fun σ H R=>tl σ H fun x H1=>∃a,x= .ref a/\(∃xs,SqT K H1 a xs)/\R (Itt K a) H1
theorem A9c{l:Expr}{tl:TE}(hl:PE X l tl):PI X tg l (J3q X.K tl):=by
 intro pins s σ H R I h
 refine thn (hl pins s σ H _ I h) fun v s1 hh_=>?_
 obtain⟨x,H1,I1,r1,q1⟩:=hh_
 obtain⟨a,e,⟨xs,hq⟩,q⟩:=q1
 subst e
 cases r1
 obtain⟨its,rv,p,hz⟩:=I1.list hq
 refine wpAny_pyIter_list p.isList ?_
 refine⟨s1.heap.objs.size,[s1.heap.objs.size],_,_,H1,rfl,I1.kept (t':=s1.toks) fun b o e=>Heap.get?_push_of_some _ e,C7x a _,⟨_,Heap.get?_push_size _ rfl,rfl,rfl⟩,fun b hb=>?_,q⟩
 have e:b=s1.heap.objs.size:=by simpa using hb
 subst e
 exact I1.fpOk (Nat.le_refl _) (I1.hok.fresh (Nat.le_refl _))
theorem C3g{l:Expr}{tl:TE}(hl:PE X l tl):PI X tg l (J2m X.K tl):=by
 intro pins s σ H R I h
 refine thn (hl pins s σ H _ I h) fun v s1 hh_=>?_
 obtain⟨x,H1,I1,r1,q1⟩:=hh_
 obtain⟨a,e,⟨xs,hq⟩,q⟩:=q1
 subst e
 cases r1
 obtain⟨its,rv,p,hz⟩:=I1.tuple hq
 refine wpAny_pyIter_tuple (show s1.heap.IsTuple a its.toArray from p) ?_
 refine⟨s1.heap.objs.size,[s1.heap.objs.size],_,_,H1,rfl,I1.kept (t':=s1.toks) fun b o e=>Heap.get?_push_of_some _ e,C2u a _,⟨_,Heap.get?_push_size _ rfl,rfl,rfl⟩,fun b hb=>?_,q⟩
 have e:b=s1.heap.objs.size:=by simpa using hb
 subst e
 exact I1.fpOk (Nat.le_refl _) (I1.hok.fresh (Nat.le_refl _))
theorem D2q{pins:List (Addr×Obj)}{σ:St}{H:Hp}{s:Shared}{R:It ->Hp ->Prop}{E:Value ->Shared ->Prop}{lo hi:Int}{t u v:Tok}{tk:Nat}(I:Inv X pins σ H s)(h1: -(2^62)<=lo)(h2:lo<2^62)(h3: -(2^62)<=hi)(h4:hi<2^62)
   (q:R (Itr lo (hi-lo).toNat) H):wpAny (model X.prog X.w) X.A (pyIter (.ref s.heap.objs.size)) (PIE X pins σ tg R) E {s with heap:=s.heap.push {cls:= .type "range",data:= .fields #[.int lo t,.int hi u,.int 1 v]},toks:=tk}:=by
 refine wpAny_pyIter_range (IsRange.new ..) (small_one h1 h2 h3 h4) ?_
 have I1:Inv X pins σ H {s with heap:=s.heap.push {cls:= .type "range",data:= .fields #[.int lo t,.int hi u,.int 1 v]},toks:=tk}:=I.kept fun b o e=>Heap.get?_push_of_some _ e
 refine⟨(s.heap.push {cls:= .type "range",data:= .fields #[.int lo t,.int hi u,.int 1 v]}).objs.size,[(s.heap.push {cls:= .type "range",data:= .fields #[.int lo t,.int hi u,.int 1 v]}).objs.size],_,_,H,rfl,
   I1.kept (t':=tk) fun b o e=>Heap.get?_push_of_some _ e,C2v _ lo (hi-lo).toNat,?_,fun b hb=>?_,q⟩
 . have e1:lo+((0:Nat):Int)*1=lo:=by simp
   have e2:(((hi-lo).toNat:Nat):Int)- ((0:Nat):Int)=Builtin.Range.rangeSize lo hi 1:=by rw[rangeSize_one];split<;>omega
   show IsRangeIter _ _ (lo+((0:Nat):Int)*1) ((((hi-lo).toNat:Nat):Int)- ((0:Nat):Int)) 1
   rw[e1,e2]
   exact Heap.get?_push_size _ rfl
 have e:b=(s.heap.push {cls:= .type "range",data:= .fields #[.int lo t,.int hi u,.int 1 v]}).objs.size:=by simpa using hb
 subst e
 exact I1.fpOk (Nat.le_refl _) (I1.hok.fresh (Nat.le_refl _))
noncomputable def J2e (ta:TA):TI:=fun σ H R=>ta σ H fun vs H1=>∃j:Int,vs=[.int j]/\ -(2^62)<=j/\j<2^62/\R (Itr 0 j.toNat) H1
theorem B5y{a:Expr}{ta:TA}{p pos:Pos}(hg:Gl X "range")(hm:X.mg "range"=none)(ha:PA X [a] ta)(hs:starEach [a] X.env=[(false,eval a X.env)]:=by rfl):PI X tg (.Call (.Name "range" p) [a] [] pos) (J2e ta):=by
 intro pins s σ H R I h
 refine Call_ (A9q I hg hm boot_range (PyProof.Rows.callWith_type1 (thn (ha pos pins s σ H _ I h) fun us s1 hh_=>?_) hs rfl))
 obtain⟨vs,H1,I1,r1,q1⟩:=hh_
 obtain⟨j,e,q1,q2,q⟩:=q1
 subst e
 cases r1 with
 | cons r rr=>
   cases rr
   obtain⟨t,rfl⟩:=r
   exact call_range_1 (D2q I1 (by omega) (by omega) q1 q2 (by simpa using q))
noncomputable def J6d (wi:TI) (g:TG) (tb:TS):TS:=fun D σ H=>wi σ H fun J H1=>∃W:Nat ->Nat ->St ->Hp ->Prop,(∃m,W 0 m σ H1)/\∀i m σ H,W i m σ H ->
 (J.stop i H/\D.nx σ H)\/(J.go i H/\∃N:St ->Hp ->Prop,(∀σ' H',N σ' H' ->∃m',m'<m/\W (i+1) m' σ' H')/\∀x H',J.yld i H x H' ->g x σ H' fun σ2 H2=>tb {D with nx:=N,ct:=N,bk:=D.nx} σ2 H2)
noncomputable def A0s (fp:List Addr) (h:Heap):List (Addr×Obj):=fp.filterMap fun b=>(h.get? b).map fun o=>(b,o)
theorem A1q{fp:List Addr}{h:Heap}{b:Addr}{o:Obj}(hb:b∈fp)(e:h.get? b=some o):(b,o)∈A0s fp h:=List.mem_filterMap.mpr ⟨b,hb,by rw[e];rfl⟩
theorem C7u{fp:List Addr}{h:Heap}{p:Addr×Obj}(hp:p∈A0s fp h):p.1∈fp/\h.get? p.1=some p.2:=by
 obtain⟨b,hb,e⟩:=List.mem_filterMap.mp hp
 cases q:h.get? b with
 |none=>rw[q] at e;cases e
 | some o=>
   rw[q] at e
   have e':(b,o)=p:=Option.some.inj e
   subst e'
   exact⟨hb,q⟩
theorem Inv.pinned{pins:List (Addr×Obj)}{σ:St}{H:Hp}{s:Shared}{fp:List Addr}(I:Inv X pins σ H s)(hf:∀b∈fp,A5q X pins H b)(ho:∀b∈fp,∃o,s.heap.get? b=some o/\∀v,o.data≠ .cell v):Inv X (pins++A0s fp s.heap) σ H s:=
 I.pins_of fun p hp=>(List.mem_append.mp hp).elim (fun z=>I.pin p (List.mem_append_right _ z)) fun z=>by
   obtain⟨hb,e⟩:=C7u z
   obtain⟨f0,f1,f2,_⟩:=hf p.1 hb
   obtain⟨o,e',d⟩:=ho p.1 hb
   rw[e] at e';cases e'
   exact⟨e,f0,f1,f2,d⟩
theorem Inv.unpinned{pins pl:List (Addr×Obj)}{σ:St}{H:Hp}{s:Shared}(I:Inv X (pins++pl) σ H s):Inv X pins σ H s:=I.pins_of fun p hp=>I.pin p (List.mem_append_right _ (List.mem_append_left _ hp))
theorem A9u{iter:Expr}{body:List Stmt}{wi:TI}{g:TG}{tb:TS}{pos:Pos}(hp:PassesOwn (model X.prog X.w) X.A X.env X.xe)(hc:X.calm=true)(hi:PI X tg iter wi)(hg:PG X tg g)(hb:PSs X body tb)
   (hs:∀x,foldedSetIterable iter X.env x=pure x:=by intro _;rfl):PS X (.For tg iter body [] pos) (J6d wi g tb):=by
 intro pins s σ H D I h
 refine wpAny_For (thn (hi pins s σ H _ I h) fun v s1 h1=>thn h1 fun itv s2 h2=>?_) hs
 obtain⟨it,fp,tn,J,H2,e,I2,T,st2,f2,W,⟨m0,w0⟩,turn⟩:=h2
 subst e
 have stat:∀{H':Hp},(∀b∈fp,H' b=none) ->∀b∈fp,A5q X pins H' b:=fun hn b hb=>⟨hn b hb,(f2 b hb).2⟩
 refine codeAny_forLoop_any (fun n s'=>∃i σ' H',Inv X pins σ' H' s'/\tn i s'.heap/\(∀b∈fp,H' b=none)/\W i n σ' H') ?_ m0 ⟨0,σ,H2,I2,st2,fun b hb=>(f2 b hb).1,w0⟩
 rintro n s3 ⟨i,σ3,H3,I3,st3,fr3,w3⟩
 rcases turn i n σ3 H3 w3 with⟨stop,qn⟩|⟨go,N,hN,step⟩
 . refine wpAny_passesOwn hp (thn (T.done X rfl rfl rfl hc i pins s3 σ3 H3 X.xe I3 (stat fr3) st3 stop) fun r s4 ⟨hr,I4⟩=>?_)
   subst hr
   exact wpAny_execs_nil ⟨σ3,H3,I4,qn⟩
 refine wpAny_passesOwn hp (thn (T.item X rfl rfl rfl hc i pins s3 σ3 H3 X.xe I3 (stat fr3) st3 go) fun r s4 ⟨u,hr,h4⟩=>?_)
 subst hr
 refine wpAny_passesOwn hp (thn h4 fun _ s5 hh_=>?_)
 obtain⟨x,H5,I5,r5,y5,st5,fr5⟩:=hh_
 have I5':=I5.pinned (stat fr5) (T.obj _ _ st5)
 refine wpAny_passesOwn hp (thn (hg _ s5 σ3 H5 x u _ I5' r5 (step x H5 y5)) fun _ s6 hh_=>?_)
 obtain⟨σ6,H6,I6,q6⟩:=hh_
 refine wpAny_passesOwn hp (thn (hb _ s6 σ6 H6 _ I6 q6) fun f s7 q7=>?_)
 have again:∀{σ7:St} {H7:Hp},Inv X (pins++A0s fp s5.heap) σ7 H7 s7 ->N σ7 H7 ->∃m,m<n/\∃i σ' H',Inv X pins σ' H' s7/\tn i s7.heap/\(∀b∈fp,H' b=none)/\W i m σ' H':=fun{σ7 H7} I7 n7=>by
   obtain⟨m',hm,w7⟩:=hN σ7 H7 n7
   refine⟨m',hm,i+1,σ7,H7,I7.unpinned,T.keep _ _ _ st5 fun b hb o e=>(I7.pin (b,o) (List.mem_append_right _ (List.mem_append_right _ (A1q hb e)))).1,fun b hb=>?_,w7⟩
   obtain⟨o,e,d⟩:=T.obj _ _ st5 b hb
   exact(I7.pin (b,o) (List.mem_append_right _ (List.mem_append_right _ (A1q hb e)))).2.1
 cases f with
 |next=>obtain⟨σ7,H7,I7,n7⟩:=q7;exact again I7 n7
 |cont=>obtain⟨σ7,H7,I7,n7⟩:=q7;exact again I7 n7
 |brk=>obtain⟨σ7,H7,I7,q7⟩:=q7;exact⟨σ7,H7,I7.unpinned,q7⟩
 |ret v=>obtain⟨x7,σ7,H7,I7,r7,q7⟩:=q7;exact⟨x7,σ7,H7,I7.unpinned,r7,q7⟩
end
theorem A5h{K:PySem.W.Frag}{a:Addr}{xs:List V}{g:TG}{tb:TS}{D:B4x}{σ:St}{H:Hp}(Pv:Nat ->St ->Hp ->Prop)(h0:Pv 0 σ H)(hl:∀i σ H,i<=xs.length ->Pv i σ H ->SqL K H a xs)
   (hs:∀i x σ H,xs[i]?=some x ->Pv i σ H ->g x σ H fun σ2 H2=>tb {D with nx:=Pv (i+1),ct:=Pv (i+1),bk:=D.nx} σ2 H2) (hd:∀σ H,Pv xs.length σ H ->D.nx σ H):
   ∃ W:Nat ->Nat ->St ->Hp ->Prop,(∃m,W 0 m σ H)/\∀i m σ H,W i m σ H ->
     ((Itl K a).stop i H/\D.nx σ H)\/((Itl K a).go i H/\∃N:St ->Hp ->Prop,(∀σ' H',N σ' H' ->∃m',m'<m/\W (i+1) m' σ' H')/\∀x H',(Itl K a).yld i H x H' ->g x σ H' fun σ2 H2=>tb {D with nx:=N,ct:=N,bk:=D.nx} σ2 H2):=by
 refine⟨fun i m σ H=>m=xs.length-i/\i<=xs.length/\Pv i σ H,⟨xs.length,by simp,Nat.zero_le _,h0⟩,?_⟩
 rintro i m σ H ⟨rfl,hi,p⟩
 have q:=hl i σ H hi p
 by_cases hlt:i<xs.length
 . refine .inr ⟨⟨xs,xs[i],q,by simp[hlt]⟩,Pv (i+1),fun σ' H' p'=>⟨xs.length-(i+1),by omega,rfl,hlt,p'⟩,fun x H' y=>?_⟩
   obtain⟨e,y⟩:=y
   subst e
   exact hs i x σ _ (y xs q) p
 have e:i=xs.length:=by omega
 subst e
 exact .inl ⟨⟨xs,q,Nat.le_refl _⟩,hd σ H p⟩
theorem B5q{lo:Int}{n:Nat}{g:TG}{tb:TS}{D:B4x}{σ:St}{H:Hp}(Pv:Nat ->St ->Hp ->Prop)(h0:Pv 0 σ H)
   (hs:∀i σ H,i<n ->Pv i σ H ->g (.int (lo+i)) σ H fun σ2 H2=>tb {D with nx:=Pv (i+1),ct:=Pv (i+1),bk:=D.nx} σ2 H2) (hd:∀σ H,Pv n σ H ->D.nx σ H):
   ∃ W:Nat ->Nat ->St ->Hp ->Prop,(∃m,W 0 m σ H)/\∀i m σ H,W i m σ H ->
     ((Itr lo n).stop i H/\D.nx σ H)\/((Itr lo n).go i H/\∃N:St ->Hp ->Prop,(∀σ' H',N σ' H' ->∃m',m'<m/\W (i+1) m' σ' H')/\∀x H',(Itr lo n).yld i H x H' ->g x σ H' fun σ2 H2=>tb {D with nx:=N,ct:=N,bk:=D.nx} σ2 H2):=by
 refine⟨fun i m σ H=>m=n-i/\i<=n/\Pv i σ H,⟨n,by simp,Nat.zero_le _,h0⟩,?_⟩
 rintro i m σ H ⟨rfl,hi,p⟩
 by_cases hlt:i<n
 . refine .inr ⟨hlt,Pv (i+1),fun σ' H' p'=>⟨n-(i+1),by omega,rfl,hlt,p'⟩,fun x H' y=>?_⟩
   obtain⟨e,y⟩:=y
   subst e y
   exact hs i σ _ hlt p
 have e:i=n:=by omega
 subst e
 exact .inl ⟨Nat.le_refl _,hd σ H p⟩
theorem A1b{c:TT}{tb:TS}{D:B4x}{σ:St}{H:Hp}(Pv:St ->Hp ->Prop)(μ:St ->Hp ->Nat)(h0:Pv σ H)
   (hs:∀σ H,Pv σ H ->c σ H fun b H1=>if b=true then tb {D with nx:=fun σ' H'=>Pv σ' H'/\μ σ' H'<μ σ H,ct:=fun σ' H'=>Pv σ' H'/\μ σ' H'<μ σ H,bk:=D.nx} σ H1 else D.nx σ H1)
   (mono:∀σ H Q Q',(∀b H1,Q b H1 ->Q' b H1) ->c σ H Q ->c σ H Q'):C9n c tb D σ H:=by
 refine⟨fun m σ H=>m=μ σ H/\Pv σ H,⟨_,rfl,h0⟩,?_⟩
 rintro m σ H ⟨rfl,p⟩
 refine mono σ H _ _ (fun b H1 q=>?_) (hs σ H p)
 cases b with
 |true=>exact⟨_,fun σ' H' ⟨p',l⟩=>⟨_,l,rfl,p'⟩,q⟩
 |false=>exact q
noncomputable abbrev R2:=V ->V ->Hp ->VK ->Prop
noncomputable def OpR (X:Cx) (f:Value ->Value ->Sem Value) (r:R2):Prop:=
 ∀ (pins:List (Addr×Obj)) (s:Shared) (σ:St) (H:Hp) (x y:V) (v u:Value) (Q:VK),Inv X pins σ H s ->U7 x v ->U7 y u ->r x y H Q ->
   wpAny (model X.prog X.w) X.A (f v u) (EP X pins σ Q) X.xe s
noncomputable def UnR (X:Cx) (f:Value ->Sem Value) (r:V ->Hp ->VK ->Prop):Prop:=
 ∀ (pins:List (Addr×Obj)) (s:Shared) (σ:St) (H:Hp) (x:V) (v:Value) (Q:VK),Inv X pins σ H s ->U7 x v ->r x H Q ->
   wpAny (model X.prog X.w) X.A (f v) (EP X pins σ Q) X.xe s
noncomputable def A3s (X:Cx) (f:Value) (r:List V ->Hp ->VK ->Prop):Prop:=
 ∀ (pins:List (Addr×Obj)) (s:Shared) (σ:St) (H:Hp) (xs:List V) (us:List Value) (Q:VK),Inv X pins σ H s ->J1 xs us ->r xs H Q ->
   wpAny (model X.prog X.w) X.A (call f us) (EP X pins σ Q) X.xe s
noncomputable def tOp (r:R2) (ta tb:TE):TE:=fun σ H Q=>ta σ H fun x H1=>tb σ H1 fun y H2=>r x y H2 Q
noncomputable def tUn (r:V ->Hp ->VK ->Prop) (ta:TE):TE:=fun σ H Q=>ta σ H fun x H1=>r x H1 Q
noncomputable def rI (C:Int ->Int ->Prop) (g:Int ->Int ->V):R2:=fun x y H Q=>∃i j,x= .int i/\y= .int j/\C i j/\Q (g i j) H
noncomputable def rI0 (g:Int ->Int ->V):R2:=fun x y H Q=>∃i j,x= .int i/\y= .int j/\Q (g i j) H
noncomputable def rU (g:Int ->V):V ->Hp ->VK ->Prop:=fun x H Q=>∃i,x= .int i/\Q (g i) H
section
variable{X:Cx}{a b c:Expr}{ta tb tc:TE}{pos:Pos}
theorem G7k(ha:PE X a ta)(hb:PE X b tb){pins:List (Addr×Obj)}{s:Shared}{σ:St}{H:Hp}{R:V ->V ->Hp ->Prop}(I:Inv X pins σ H s)
   (h:ta σ H fun x H1=>tb σ H1 fun y H2=>R x y H2) {Q:Value ->Shared ->Prop} {f:Value ->Value ->Sem Value}
   (hf:∀v u s2 x y H2,Inv X pins σ H2 s2 ->U7 x v ->U7 y u ->R x y H2 ->wpAny (model X.prog X.w) X.A (f v u) Q X.xe s2):
   wpAny (model X.prog X.w) X.A (eval a X.env) (fun v s₁=>wpAny (model X.prog X.w) X.A (eval b X.env) (fun u s₂=>wpAny (model X.prog X.w) X.A (f v u) Q X.xe s₂) X.xe s₁) X.xe s:=by
 refine thn (ha pins s σ H _ I h) fun v s1 hh_=>?_
 obtain⟨x,H1,I1,r1,q1⟩:=hh_
 refine thn (hb pins s1 σ H1 _ I1 q1) fun u s2 hh_=>?_
 obtain⟨y,H2,I2,r2,q2⟩:=hh_
 exact hf v u s2 x y H2 I2 r1 r2 q2
theorem A9{op:Operator}{r:R2}(ho:OpR X (binaryOp op) r)(ha:PE X a ta)(hb:PE X b tb):PE X (.BinOp a op b pos) (tOp r ta tb):=by
 intro pins s σ H Q I h
 exact wpAny_BinOp (G7k ha hb I h fun v u s2 x y H2 I2 rx ry q=>ho pins s2 σ H2 x y v u Q I2 rx ry q)
theorem A4z{op:UnaryOp}{r:V ->Hp ->VK ->Prop}(ho:UnR X (unaryOp op) r)(ha:PE X a ta):PE X (.UnaryOp op a pos) (tUn r ta):=by
 intro pins s σ H Q I h
 exact UnaryOp_ (thn (ha pins s σ H _ I h) fun v s1 ⟨x,H1,I1,r1,q1⟩=>ho pins s1 σ H1 x v Q I1 r1 q1)
theorem opI{f:Value ->Value ->Sem Value}{C:Int ->Int ->Prop}{g:Int ->Int ->Int}
   (rule:∀(i j:Int) (t u:Tok) (s:Shared) (Q:Value ->Shared ->Prop) (E:Value ->Shared ->Prop),C i j ->Q (.int (g i j) s.toks) {s with toks:=s.toks+1} ->wpAny (model X.prog X.w) X.A (f (.int i t) (.int j u)) Q E s):
   OpR X f (rI C fun i j=> .int (g i j)):=by
 intro pins s σ H x y v u Q I rx ry h
 obtain⟨i,j,rfl,rfl,hc,q⟩:=h
 obtain⟨t,rfl⟩:=rx
 obtain⟨t',rfl⟩:=ry
 exact rule i j t t' s _ _ hc ⟨.int (g i j),H,I.tok _,⟨_,rfl⟩,q⟩
theorem J3d{f:Value ->Value ->Sem Value}{g:Int ->Int ->Int}
   (rule:∀(i j:Int) (t u:Tok) (s:Shared) (Q:Value ->Shared ->Prop) (E:Value ->Shared ->Prop),Q (.int (g i j) s.toks) {s with toks:=s.toks+1} ->wpAny (model X.prog X.w) X.A (f (.int i t) (.int j u)) Q E s):
   OpR X f (rI0 fun i j=> .int (g i j)):=by
 intro pins s σ H x y v u Q I rx ry h
 obtain⟨i,j,rfl,rfl,q⟩:=h
 obtain⟨t,rfl⟩:=rx
 obtain⟨t',rfl⟩:=ry
 exact rule i j t t' s _ _ ⟨.int (g i j),H,I.tok _,⟨_,rfl⟩,q⟩
theorem G1y{f:Value ->Value ->Sem Value}{g:Int ->Int ->Bool}
   (rule:∀(i j:Int) (t u:Tok) (s:Shared) (Q:Value ->Shared ->Prop) (E:Value ->Shared ->Prop),Q (.bool (g i j)) s ->wpAny (model X.prog X.w) X.A (f (.int i t) (.int j u)) Q E s):
   OpR X f (rI0 fun i j=> .bl (g i j)):=by
 intro pins s σ H x y v u Q I rx ry h
 obtain⟨i,j,rfl,rfl,q⟩:=h
 obtain⟨t,rfl⟩:=rx
 obtain⟨t',rfl⟩:=ry
 exact rule i j t t' s _ _ ⟨.bl (g i j),H,I,rfl,q⟩
noncomputable def G0a (i j:Int):Prop:=0<=j/\j<=1000000/\i.natAbs<2^64
noncomputable def A2w (i j:Int):Prop:=(-(2^64)<i/\i<2^64)\/(-(2^64)<j/\j<2^64)
theorem A2w.ok{i j:Int}(h:A2w i j):IntMulOk i j:=by
 rcases h with⟨h1,h2⟩|⟨h1,h2⟩
 . exact .of_left (intBits_le_64 h1 h2)
 exact .of_right (intBits_le_64 h1 h2)
theorem C1p(k:Nat):(0:Int)<=2^k:=by
 rw[two_pow_cast]
 exact Int.natCast_nonneg _
theorem G9:OpR X (binaryOp .Add) (rI0 fun i j=> .int (i+j)):=J3d fun _ _ _ _ _ _ _ q=>add_int q
theorem U2:OpR X (binaryOp .Sub) (rI0 fun i j=> .int (i-j)):=J3d fun _ _ _ _ _ _ _ q=>sub_int q
theorem U3:OpR X (binaryOp .Mod) (rI (fun _ j=>0<j) fun i j=> .int (i % j)):=opI fun i j _ _ _ _ _ hc q=>by
 have h1:(0:Int)<j:=hc
 exact mod_int' (by omega) (by rw[Int.fmod_eq_emod_of_nonneg i (by omega)];exact q)
theorem D0e:OpR X (binaryOp .Pow) (rI G0a fun i j=> .int (i^j.toNat)):=opI fun _ _ _ _ _ _ _ hc q=>pow_int_small hc.1 hc.2.1 hc.2.2 q
theorem G5r:OpR X (binaryOp .LShift) (rI G0a fun i j=> .int (i*2^j.toNat)):=opI fun _ _ _ _ _ _ _ hc q=>lshift_int_small hc.1 hc.2.1 hc.2.2 q
theorem G5u:OpR X (binaryOp .RShift) (rI (fun _ j=>0<=j) fun i j=> .int (i/2^j.toNat)):=opI fun i j _ _ _ _ _ hc q=>
 rshift_int hc (by rw[Int.fdiv_eq_ediv_of_nonneg i (C1p _)];exact q)
theorem unI{f:Value ->Sem Value}{g:Int ->Int}
   (rule:∀(i:Int) (t:Tok) (s:Shared) (Q:Value ->Shared ->Prop) (E:Value ->Shared ->Prop),Q (.int (g i) s.toks) {s with toks:=s.toks+1} ->wpAny (model X.prog X.w) X.A (f (.int i t)) Q E s):
   UnR X f (rU fun i=> .int (g i)):=by
 intro pins s σ H x v Q I rx h
 obtain⟨i,rfl,q⟩:=h
 obtain⟨t,rfl⟩:=rx
 exact rule i t s _ _ ⟨.int (g i),H,I.tok _,⟨_,rfl⟩,q⟩
theorem A2c:UnR X (unaryOp .USub) (rU fun i=> .int (-i)):=unI fun _ _ _ _ _ q=>neg_int q
end
noncomputable def J1p:V ->V ->Bool
 | .non,.non=>true| .non,.int _=>true| .int _,.non=>true| .non,.bl _=>true| .bl _,.non=>true| .non,.str _=>true| .str _,.non=>true
 | .int _,.int _=>true| .bl _,.bl _=>true| .str _,.str _=>true| .byt _,.byt _=>true
 | .int _,.str _=>true| .str _,.int _=>true| .bl _,.str _=>true| .str _,.bl _=>true
 |_,_=>false
noncomputable def rEq:R2:=fun x y H Q=>J1p x y=true/\Q (.bl (decide (x=y))) H
noncomputable def rNe:R2:=fun x y H Q=>J1p x y=true/\Q (.bl (!decide (x=y))) H
theorem C4a{i j:Int}:decide (V.int i=V.int j)=(i==j):=by
 rw[Bool.eq_iff_iff]
 simp
theorem D0n{i j:Bool}:decide (V.bl i=V.bl j)=(i==j):=by
 rw[Bool.eq_iff_iff]
 simp
theorem dec_str{i j:Str}:decide (V.str i=V.str j)=(i==j):=by
 rw[Bool.eq_iff_iff]
 simp
theorem C5k{i j:Array UInt8}:decide (V.byt i=V.byt j)=(i.toList==j.toList):=by
 rw[Bool.eq_iff_iff]
 cases i
 cases j
 simp
section
variable{X:Cx}{a b c:Expr}{ta tb tc:TE}{pos:Pos}
theorem V2{pins:List (Addr×Obj)}{σ:St}{H:Hp}{s:Shared}{Q:VK}{k k':Bool}(I:Inv X pins σ H s)(q:Q (.bl k) H)(e:k=k'):EP X pins σ Q (.bool k') s:=by
 subst e
 exact⟨.bl k,H,I,rfl,q⟩
theorem D4:OpR X (compareOp .Eq) rEq:=by
 intro pins s σ H x y v u Q I rx ry h
 obtain⟨hs,q⟩:=h
 cases x with
 | non=>
   cases rx
   cases y with
   |non=>cases ry;exact PySem.EqNone.eq_none_none (V2 I q (by simp))
   |bl j=>cases ry;exact PySem.EqNone.eq_none_bool (V2 I q (by simp))
   |int j=>obtain⟨t',rfl⟩:=ry;exact PySem.EqNone.eq_none_int (V2 I q (by simp))
   |str j=>obtain⟨t',rfl⟩:=ry;exact PySem.EqNone.eq_none_str (V2 I q (by simp))
   |_=>exact absurd (show false=true from hs) Bool.false_ne_true
 | bl i=>
   cases rx
   cases y with
   |non=>cases ry;exact PySem.EqNone.eq_bool_none (V2 I q (by simp))
   |bl j=>cases ry;exact eq_bool (V2 I q D0n)
   |str j=>obtain⟨t',rfl⟩:=ry;exact PySem.EqMixed.eq_bool_str (V2 I q (by simp))
   |_=>exact absurd (show false=true from hs) Bool.false_ne_true
 | int i=>
   obtain⟨t,rfl⟩:=rx
   cases y with
   |non=>cases ry;exact PySem.EqNone.eq_int_none (V2 I q (by simp))
   |int j=>obtain⟨t',rfl⟩:=ry;exact eq_int (V2 I q C4a)
   |str j=>obtain⟨t',rfl⟩:=ry;exact PySem.EqMixed.eq_int_str (V2 I q (by simp))
   |_=>exact absurd (show false=true from hs) Bool.false_ne_true
 | str i=>
   obtain⟨t,rfl⟩:=rx
   cases y with
   |non=>cases ry;exact PySem.EqNone.eq_str_none (V2 I q (by simp))
   |bl j=>cases ry;exact PySem.EqMixed.eq_str_bool (V2 I q (by simp))
   |int j=>obtain⟨t',rfl⟩:=ry;exact PySem.EqMixed.eq_str_int (V2 I q (by simp))
   |str j=>obtain⟨t',rfl⟩:=ry;exact eq_str (V2 I q dec_str)
   |_=>exact absurd (show false=true from hs) Bool.false_ne_true
 | byt i=>
   obtain⟨t,rfl⟩:=rx
   cases y with
   |byt j=>obtain⟨t',rfl⟩:=ry;exact PySem.W.eq_bytes (V2 I q C5k)
   |_=>exact absurd (show false=true from hs) Bool.false_ne_true
 |_=>cases y<;>exact absurd (show false=true from hs) Bool.false_ne_true
theorem B0x:OpR X (compareOp .NotEq) rNe:=by
 intro pins s σ H x y v u Q I rx ry h
 obtain⟨hs,q⟩:=h
 cases x with
 | non=>
   cases rx
   cases y with
   |non=>cases ry;exact PySem.EqNone.ne_none_none (V2 I q (by simp))
   |bl j=>cases ry;exact PySem.EqNone.ne_none_bool (V2 I q (by simp))
   |int j=>obtain⟨t',rfl⟩:=ry;exact PySem.EqNone.ne_none_int (V2 I q (by simp))
   |str j=>obtain⟨t',rfl⟩:=ry;exact PySem.EqNone.ne_none_str (V2 I q (by simp))
   |_=>exact absurd (show false=true from hs) Bool.false_ne_true
 | bl i=>
   cases rx
   cases y with
   |non=>cases ry;exact PySem.EqNone.ne_bool_none (V2 I q (by simp))
   |bl j=>cases ry;exact ne_bool (V2 I q (congrArg not D0n))
   |str j=>obtain⟨t',rfl⟩:=ry;exact PySem.EqMixed.ne_bool_str (V2 I q (by simp))
   |_=>exact absurd (show false=true from hs) Bool.false_ne_true
 | int i=>
   obtain⟨t,rfl⟩:=rx
   cases y with
   |non=>cases ry;exact PySem.EqNone.ne_int_none (V2 I q (by simp))
   |int j=>obtain⟨t',rfl⟩:=ry;exact ne_int (V2 I q (congrArg not C4a))
   |str j=>obtain⟨t',rfl⟩:=ry;exact PySem.EqMixed.ne_int_str (V2 I q (by simp))
   |_=>exact absurd (show false=true from hs) Bool.false_ne_true
 | str i=>
   obtain⟨t,rfl⟩:=rx
   cases y with
   |non=>cases ry;exact PySem.EqNone.ne_str_none (V2 I q (by simp))
   |bl j=>cases ry;exact PySem.EqMixed.ne_str_bool (V2 I q (by simp))
   |int j=>obtain⟨t',rfl⟩:=ry;exact PySem.EqMixed.ne_str_int (V2 I q (by simp))
   |str j=>obtain⟨t',rfl⟩:=ry;exact ne_str (V2 I q (congrArg not dec_str))
   |_=>exact absurd (show false=true from hs) Bool.false_ne_true
 | byt i=>
   obtain⟨t,rfl⟩:=rx
   cases y with
   |byt j=>obtain⟨t',rfl⟩:=ry;exact PySem.W.ne_bytes (V2 I q (congrArg not C5k))
   |_=>exact absurd (show false=true from hs) Bool.false_ne_true
 |_=>cases y<;>exact absurd (show false=true from hs) Bool.false_ne_true
theorem A6u:OpR X (compareOp .Lt) (rI0 fun i j=> .bl (decide (i<j))):=G1y fun _ _ _ _ _ _ _ q=>lt_int q
theorem G4r:OpR X (compareOp .LtE) (rI0 fun i j=> .bl (decide (i<=j))):=G1y fun _ _ _ _ _ _ _ q=>le_int q
theorem A5a:OpR X (compareOp .Gt) (rI0 fun i j=> .bl (decide (j<i))):=G1y fun _ _ _ _ _ _ _ q=>gt_int q
theorem C4y:OpR X (compareOp .GtE) (rI0 fun i j=> .bl (decide (j<=i))):=G1y fun _ _ _ _ _ _ _ q=>ge_int q
theorem G7q:OpR X (compareOp .Is) (fun x y H Q=>y= .non/\Q (.bl (decide (x= .non))) H):=by
 intro pins s σ H x y v u Q I rx ry h
 obtain⟨rfl,q⟩:=h
 cases ry
 refine is_none_gen (V2 I q ?_)
 cases x<;>first
   |(cases rx;rfl)
   |(obtain⟨t,rfl⟩:=rx;rfl)
theorem B8(b:Expr){op:CmpOp}(h:op≠ .In:=by decide)(h2:op≠ .NotIn:=by decide):behindInMarks op b=false:=by
 have e1:(op==CmpOp.In)=false:=by cases op<;>first|rfl|exact absurd rfl h
 have e2:(op==CmpOp.NotIn)=false:=by cases op<;>first|rfl|exact absurd rfl h2
 cases b<;>simp[behindInMarks,e1,e2]
theorem G3{op:CmpOp}{r:R2}(ho:OpR X (compareOp op) r)(ha:PE X a ta)(hb:PE X b tb)(hm:behindInMarks op b=false):PE X (.Compare a [op] [b] pos) (tOp r ta tb):=by
 intro pins s σ H Q I h
 exact wpAny_Compare1 (G7k ha hb I h fun v u s2 x y H2 I2 rx ry q=>ho pins s2 σ H2 x y v u Q I2 rx ry q) hm
noncomputable def J3b (t:TE):TT:=fun σ H Q=>t σ H fun x H'=>∃k,x= .bl k/\Q k H'
theorem B9{op:CmpOp}{r:R2}(ho:OpR X (compareOp op) r)(ha:PE X a ta)(hb:PE X b tb)(hm:behindInMarks op b=false):PT X (.Compare a [op] [b] pos) (J3b (tOp r ta tb)):=by
 intro pins s σ H Q I h
 refine wpAny_isTrue_Compare1 (thn (ha pins s σ H _ I h) fun v s1 ⟨x,H1,I1,r1,q1⟩=>thn (hb pins s1 σ H1 _ I1 q1) fun u s2 ⟨y,H2,I2,r2,q2⟩=>
   thn (ho pins s2 σ H2 x y v u _ I2 r1 r2 q2) fun c s3 ⟨z,H3,I3,r3,k,e,q3⟩=>?_) hm
 subst e
 cases r3
 exact wpAny_truthy_bool ⟨H3,I3,q3⟩
theorem B8s:(sizeLine:Nat)<2^63:=by rw[sizeLine_eq];decide
theorem B2z{x:V}{us:List Value}(r:J1 [x] us):∃u,us=[u]/\U7 x u:=by
 cases r with
 |cons r1 r2=>cases r2;exact⟨_,rfl,r1⟩
theorem D0r{x y:V}{us:List Value}(r:J1 [x,y] us):∃u w',us=[u,w']/\U7 x u/\U7 y w':=by
 cases r with
 | cons r1 r2=>
   cases r2 with
   |cons r3 r4=>cases r4;exact⟨_,_,rfl,r1,r3⟩
theorem A3p:A3s X (.builtin "abs") (fun xs H Q=>∃i,xs=[.int i]/\Q (.int (if i<0 then -i else i)) H):=by
 intro pins s σ H xs us Q I r h
 obtain⟨i,rfl,q⟩:=h
 obtain⟨u,rfl,t,rfl⟩:=B2z r
 exact call_abs_int fun u tk=>⟨.int (if i<0 then -i else i),H,I.tok _,⟨_,rfl⟩,q⟩
theorem A0b(hc:X.calm=true):A3s X (.builtin "max") (fun xs H Q=>∃i j,xs=[.int i,.int j]/\Q (.int (if j>i then j else i)) H):=by
 intro pins s σ H xs us Q I r h
 obtain⟨i,j,rfl,q⟩:=h
 obtain⟨u,w',rfl,⟨t,rfl⟩,⟨t',rfl⟩⟩:=D0r r
 refine max_two_ints (I.ok.hd hc) fun h' tk k=>⟨_,H,I.kept k,?_,q⟩
 by_cases hj:j>i
 . rw[if_pos hj,if_pos hj];exact⟨_,rfl⟩
 rw[if_neg hj,if_neg hj];exact⟨_,rfl⟩
theorem A0g(hc:X.calm=true):A3s X (.builtin "min") (fun xs H Q=>∃i j,xs=[.int i,.int j]/\Q (.int (if j<i then j else i)) H):=by
 intro pins s σ H xs us Q I r h
 obtain⟨i,j,rfl,q⟩:=h
 obtain⟨u,w',rfl,⟨t,rfl⟩,⟨t',rfl⟩⟩:=D0r r
 refine min_two_ints (I.ok.hd hc) fun h' tk k=>⟨_,H,I.kept k,?_,q⟩
 by_cases hj:j<i
 . rw[if_pos hj,if_pos hj];exact⟨_,rfl⟩
 rw[if_neg hj,if_neg hj];exact⟨_,rfl⟩
theorem A0v:A3s X (.type "int") (fun xs H Q=>(∃i,xs=[.int i]/\Q (.int i) H)\/∃k,xs=[.bl k]/\Q (.int (if k then 1 else 0)) H):=by
 intro pins s σ H xs us Q I r h
 rcases h with⟨i,rfl,q⟩|⟨k,rfl,q⟩
 . obtain⟨u,rfl,t,rfl⟩:=B2z r
   exact call_int_int ⟨.int i,H,I,⟨_,rfl⟩,q⟩
 obtain⟨u,rfl,r1⟩:=B2z r
 cases r1
 exact call_int_bool ⟨.int (if k then 1 else 0),H,I.tok _,⟨_,rfl⟩,q⟩
theorem B7d:A3s X (.type "str") (fun xs H Q=>∃i,xs=[.int i]/\i.natAbs.log2<1920/\Q (.str (toString i)) H):=by
 intro pins s σ H xs us Q I r h
 obtain⟨i,rfl,hz,q⟩:=h
 obtain⟨u,rfl,t,rfl⟩:=B2z r
 exact PySem.P.str_of_int hz ⟨.str _,H,I.tok _,⟨_,rfl⟩,q⟩
end
structure C3m(h:Heap)(x dx C:Addr)(mA:Str ->Option Value):Prop where
 obj:h.get? x=some (PySem.W.instObj C dx)
 ns:h.Ns1 dx mA
 ne:dx≠x
theorem A9g{h:Heap}{dx:Addr}{mA:Str ->Option Value}(n:h.Ns1 dx mA):∃od,h.get? dx=some od/\∀name,PySem.W.lookIn name od=some (mA name):=by
 obtain⟨o,es,ep,ho,hd,hk,_,hm⟩:=n
 refine⟨o,ho,fun name=>?_⟩
 have e:=hm name
 unfold nsFind findBy at e
 rw[<-Array.find?_toList] at e
 unfold PySem.W.lookIn
 rw[hd]
 dsimp only
 split
 . rename_i y q
   rw[q] at e
   exact congrArg some e
 rename_i q
 rw[q] at e
 have a:es.toList.any (·.refKey)=false:=by
   rw[List.any_eq_false]
   intro y hy
   obtain⟨z,t,hkey⟩:=hk y (Array.mem_toList_iff.mp hy)
   simp[DictEntry.refKey,hkey]
 have a':¬es.toList.any (·.refKey)=true:=by rw[a];exact Bool.false_ne_true
 rw[if_neg a']
 exact congrArg some e
theorem C3m.look{h:Heap}{x dx C:Addr}{mA:Str ->Option Value}(I:C3m h x dx C mA):∃od,PySem.W.InstAt h x (PySem.W.instObj C dx) C (some od)/\∀name,PySem.W.lookIn name od=some (mA name):=
 let⟨od,ho,hl⟩:=A9g I.ns
 ⟨od,⟨I.obj,rfl,rfl,ho⟩,hl⟩
section
variable{prog:Program}{w:World}{A:Around}{E:Value ->Shared ->Prop}{s:Shared}{K:PySem.W.Frag}{x dx C f:Addr}{mA:Str ->Option Value}{name:Str}{v:Value}
theorem G4a{expr:Bool}{Q:Value ->Shared ->Prop}(X:K.In s.heap)(I:C3m s.heap x dx C mA)(hg:PySem.W.plainGet K C name=true)(hh:PySem.W.hasDictIn K C=true)
   (ha:PySem.W.findIn K (.ref C) name=some none) (hv:mA name=some v) (hv':PySem.W.handedIn v=true) (h:Q v {s with toks:=s.toks+1}):
   wpAny (model prog w) A (getAttr (.ref x) name expr) Q E s:=by
 obtain⟨od,J,hl⟩:=I.look
 exact PySem.W.get_value X J (PySem.W.plainGet_of hg).1 (PySem.W.findObj_own hh ha rfl (by rw[hl,hv])) hv' h
theorem C9s{pl:Sem Bool}{Q:Value×List Value ->Shared ->Prop}(X:K.In s.heap)(I:C3m s.heap x dx C mA)(hg:PySem.W.plainGet K C name=true)
   (hf:PySem.W.findIn K (.ref C) name=some (some (.ref f))) (ht:PySem.W.isFn K (.ref f)=true) (hv:mA name=none) (h:Q (.ref f,[.ref x]) s):
   wpAny (model prog w) A (getMethod (.ref x) name pl) Q E s:=by
 obtain⟨od,J,hl⟩:=I.look
 exact PySem.W.method_fn X J (PySem.W.plainGet_of hg).1 (PySem.W.plainGet_of hg).2 hf (beq_iff_eq.mp ht) (by show(PySem.W.lookIn name od).map (·.isSome)=some false;rw[hl,hv];rfl) h
theorem G2r{ns:List Str}{Q:Unit ->Shared ->Prop}(X:K.In s.heap)(I:C3m s.heap x dx C mA)
   (hs:PySem.W.findIn K (.ref C) "__setattr__"=some (some (.builtin "object.__setattr__"))) (hp:PySem.W.plainOver K C=true) (ht:PySem.W.takerIn K C name=some none) (hh:PySem.W.hasDictIn K C=true)
   (hw:PySem.Within mA ns) (hsz:ns.length<=sizeLine)
   (h:∀h',C3m h' x dx C (fun y=>if y=name then some v else mA y) ->Heap.SameBut dx s.heap h' ->Q () {s with heap:=h',toks:=s.toks+2}):
   wpAny (model prog w) A (setAttr (.ref x) name v) Q E s:=by
 obtain⟨od,J,hl⟩:=I.look
 refine PySem.W.set_plain X J hs (PySem.W.osa_open (s:={s with toks:=s.toks+1}) (r:=none) X J hp ht fun b=>?_)
 obtain⟨cd,hc,hd'⟩:=PySem.W.any_some hh
 have hx:s.heap.get? x=some ⟨.ref C,some dx,.plain, #[]⟩:=I.obj
 refine wpAny_bind (wpAny_pure (wpAny_bind (wpAny_bind (wpAny_loadPart hx (wpAny_bind (PySem.W.Looks.here (s:={s with toks:=s.toks+1}) (PySem.W.looks_clsIn X hc) ?_))))))
 rw[hd']
 refine wpAny_pure (a:=some dx) (wpAny_bind (wpAny_pure (wpAny_bind ?_)))
 refine wpAny_nsSet1 (s:={s with toks:=s.toks+1}) I.ns fun h' hn2 hs2=>?_
 obtain⟨oD,esD,epD,hoD,hdD,hcD⟩:=hn2.count (PySem.Within.cons name v hw)
 refine wpAny_bind (wpAny_lookBehind hoD (by rw[hdD];exact pastItsLine_dict (Nat.le_trans hcD (by rw[List.length_cons];omega))) ?_)
 exact wpAny_pure (h _ ⟨(hs2.2 _ (Ne.symm I.ne)).trans I.obj,hn2,I.ne⟩ hs2)
theorem C0q{R:Result ->Shared ->Prop}{vs:List Value}{kw:List (Str×Value)}(X:K.In s.heap)(hm:PySem.W.makesIn K C=true)
   (hi:PySem.W.findIn K (.ref C) "__init__"=some (some (.ref f))) (hf:PySem.W.typeIn K (.ref f)=some (.type "function"))
   (h:codeAny (model prog w) (A.under (.builtin "type.__call__" ⟨.ref C::vs,kw⟩)) (.call (.ref f) ⟨.ref (s.heap.objs.size+1)::vs,kw⟩) (PySem.W.InitBack (s.heap.objs.size+1) R)
     {s with heap:=(s.heap.push PySem.W.emptyDict).push (PySem.W.instObj C s.heap.objs.size)}):
   codeAny (model prog w) A (.call (.ref C) ⟨vs,kw⟩) R s:=by
 obtain⟨hh,g,d,t,os⟩:=s
 exact PySem.W.make_core (PySem.W.makes_of X hm) (PySem.W.looks_findIn X hi) (fun self=>PySem.W.bind_fn X self hf) (.inl rfl) h
theorem C9b{R:Result ->Shared ->Prop}(X:K.In s.heap)(hm:PySem.W.makesIn K C=true)
   (hi:PySem.W.findIn K (.ref C) "__init__"=some (some (.builtin "object.__init__")))
   (hb:∀self,PySem.W.Looks (model prog w) s.heap (bindSpecial (.builtin "object.__init__") self) (.builtin "object.__init__",[self]))
   (h:codeAny (model prog w) (A.under (.builtin "type.__call__" ⟨[.ref C],[]⟩)) (.call (.builtin "object.__init__") ⟨[.ref (s.heap.objs.size+1)],[]⟩) (PySem.W.InitBack (s.heap.objs.size+1) R)
     {s with heap:=(s.heap.push PySem.W.emptyDict).push (PySem.W.instObj C s.heap.objs.size)}):
   codeAny (model prog w) A (.call (.ref C) ⟨[],[]⟩) R s:=by
 obtain⟨hh,g,d,t,os⟩:=s
 exact PySem.W.make_core (PySem.W.makes_of X hm) (PySem.W.looks_findIn X hi) hb (.inr ⟨rfl,rfl⟩) h
end
noncomputable def putF (f:Str) (v:V):List (Str×V) ->List (Str×V)
 | []=>[(f,v)]
 |(g,x)::r=>if g=f then(g,v)::r else(g,x)::putF f v r
theorem G2(f g:Str)(v:V):∀fs:List (Str×V),(putF f v fs).lookup g=if g=f then some v else fs.lookup g
 | []=>by
   show List.lookup g [(f,v)]=_
   by_cases h:g=f
   . have hb:(g==f)=true:=beq_iff_eq.mpr h
     simp only[List.lookup,hb,if_pos h]
   . have hb:(g==f)=false:=beq_eq_false_iff_ne.mpr h
     simp only[List.lookup,hb,if_neg h]
 | (k, x)::r=>by
   have ih:=G2 f g v r
   rw[show putF f v ((k,x)::r)=(if k=f then(k,v)::r else(k,x)::putF f v r) from rfl]
   by_cases hk:k=f
   . rw[if_pos hk]
     by_cases h:g=k
     . have hb:(g==k)=true:=beq_iff_eq.mpr h
       simp only[List.lookup,hb,if_pos (h.trans hk)]
     . have hb:(g==k)=false:=beq_eq_false_iff_ne.mpr h
       simp only[List.lookup,hb,if_neg (fun e:g=f=>h (e.trans hk.symm))]
   . rw[if_neg hk]
     by_cases h:g=k
     . have hb:(g==k)=true:=beq_iff_eq.mpr h
       simp only[List.lookup,hb,if_neg (fun e:g=f=>hk (h.symm.trans e))]
     . have hb:(g==k)=false:=beq_eq_false_iff_ne.mpr h
       simp only[List.lookup,hb]
       exact ih
theorem A9w(f:Str)(v:V):∀fs:List (Str×V),f∈(putF f v fs).map (·.1)/\∀g,g∈fs.map (·.1) ->g∈(putF f v fs).map (·.1)
 | []=>⟨by simp[putF],fun g h=>by simp at h⟩
 | (k, x)::r=>by
   obtain⟨i1,i2⟩:=A9w f v r
   rw[show putF f v ((k,x)::r)=(if k=f then(k,v)::r else(k,x)::putF f v r) from rfl]
   by_cases hk:k=f
   . rw[if_pos hk]
     subst hk
     exact⟨by simp,fun g h=>by simpa using h⟩
   . rw[if_neg hk]
     refine⟨?_,fun g h=>?_⟩
     . rw[List.map_cons]
       exact List.mem_cons_of_mem _ i1
     . rw[List.map_cons] at h ⊢
       rcases List.mem_cons.mp h with e|e
       . exact List.mem_cons.mpr (.inl e)
       . exact List.mem_cons_of_mem _ (i2 g e)
theorem A0u(f:Str)(v:V):∀fs:List (Str×V),(putF f v fs).length<=fs.length+1
 | []=>by simp[putF]
 | (k,x)::r=>by
   have ih:=A0u f v r
   rw[show putF f v ((k,x)::r)=(if k=f then(k,v)::r else(k,x)::putF f v r) from rfl]
   by_cases hk:k=f
   . rw[if_pos hk,List.length_cons,List.length_cons];omega
   . rw[if_neg hk,List.length_cons,List.length_cons];omega
theorem A3x.some_of{v:V}{o:Option Value}(r:A3x (some v) o):∃u,o=some u/\U7 v u:=by
 cases o with
 |none=>exact(show False from r).elim
 |some u=>exact⟨u,rfl,r⟩
theorem A3x.none_of{o:Option Value}(r:A3x none o):o=none:=by
 cases o with
 |none=>rfl
 |some u=>exact(show False from r).elim
theorem B5b{v:V}{u:Value}(r:U7 v u):PySem.W.handedIn u=true:=by
 cases v with
 |non=>cases(show u=Value.none from r);rfl
 |bl b=>cases(show u=Value.bool b from r);rfl
 |int i=>obtain⟨t,e⟩:=(show∃t,u=Value.int i t from r);cases e;rfl
 |str x=>obtain⟨t,e⟩:=(show∃t,u=Value.str x t from r);cases e;rfl
 |byt b=>obtain⟨t,e⟩:=(show∃t,u=Value.bytes b t from r);cases e;rfl
 |flt b=>obtain⟨t,e⟩:=(show∃t,u=Value.float b t from r);cases e;rfl
 |ref a=>cases(show u=Value.ref a from r);rfl
 |ty n=>cases(show u=Value.type n from r);rfl
section
variable{P:Program}{w:World}{H H':Hp}{h h':Heap}{a C dx:Addr}{fs fs':List (Str×V)}
theorem B1p(hok:HOk P w H h)(e:H a=some (.ins C dx fs)):∃mA,C3m h a dx C mA/\(∀f,A3x (fs.lookup f) (mA f))/\PySem.Within mA (fs.map (·.1))/\fs.length<=1000/\H dx=some (.own a):=by
 obtain⟨d,z,ne,ob,mA,n,r,q⟩:=(show Y4 P w H h a (.ins C dx fs) from hok a _ e)
 exact⟨mA,⟨ob,n,ne⟩,r,q,z,d⟩
end
structure Cls(K:PySem.W.Frag)(C:Addr):Prop where
 pg:PySem.W.plainGet K C Str.empty=true
 hd:PySem.W.hasDictIn K C=true
 po:PySem.W.plainOver K C=true
 sa:PySem.W.findIn K (.ref C) "__setattr__"=some (some (.builtin "object.__setattr__"))
theorem Cls.get{K:PySem.W.Frag}{C:Addr}(c:Cls K C)(f:Str):PySem.W.plainGet K C f=true:=c.pg
noncomputable def Y6 (K:PySem.W.Frag) (C:Addr) (f:Str):Prop:=PySem.W.findIn K (.ref C) f=some none
theorem Y6.taker{K:PySem.W.Frag}{C:Addr}{f:Str}(n:Y6 K C f):PySem.W.takerIn K C f=some none:=by
 unfold PySem.W.takerIn
 rw[show PySem.W.findIn K (.ref C) f=some none from n]
 rfl
structure A9f(K:PySem.W.Frag)(C:Addr)(m:Str)(f:Addr):Prop where
 at_:PySem.W.findIn K (.ref C) m=some (some (.ref f))
 fn:PySem.W.isFn K (.ref f)=true
 kp:PySem.W.keepIn K (.ref f)=true
section
variable{X:Cx}{pins:List (Addr×Obj)}{σ:St}{H:Hp}{s:Shared}{a C dx:Addr}{fs:List (Str×V)}{f:Str}{v:V}{A:Around}{E:Value ->Shared ->Prop}
theorem C3f{b:Bool}{Q:Value ->Shared ->Prop}(I:Inv X pins σ H s)(e:H a=some (.ins C dx fs))(c:Cls X.K C)(n:Y6 X.K C f)(l:fs.lookup f=some v)
   (h:∀u s',Inv X pins σ H s' ->U7 v u ->Q u s'):wpAny (model X.prog X.w) A (getAttr (.ref a) f b) Q E s:=by
 obtain⟨mA,O,r,_,_,_⟩:=B1p I.hok e
 obtain⟨u,hu,ru⟩:=A3x.some_of (v:=v) (o:=mA f) (by rw[<-l];exact r f)
 exact G4a I.kIn O (c.get f) c.hd n hu (B5b ru) (h u _ (I.tok _) ru)
theorem B3y{m:Str}{g:Addr}{pl:Sem Bool}{Q:Value×List Value ->Shared ->Prop}(I:Inv X pins σ H s)(e:H a=some (.ins C dx fs))(c:Cls X.K C)(k:A9f X.K C m g)(l:fs.lookup m=none)
   (h:Q (.ref g,[.ref a]) s):wpAny (model X.prog X.w) A (getMethod (.ref a) m pl) Q E s:=by
 obtain⟨mA,O,r,_,_,_⟩:=B1p I.hok e
 have hn:mA m=none:=A3x.none_of (by rw[<-l];exact r m)
 exact C9s I.kIn O (c.get m) k.at_ k.fn hn h
theorem C2k{y:V}{u:Value}{Q:Unit ->Shared ->Prop}(I:Inv X pins σ H s)(e:H a=some (.ins C dx fs))(c:Cls X.K C)(n:Y6 X.K C f)(hl:fs.length<1000)(ry:U7 y u)
   (h:∀s',Inv X pins σ (upd H a (.ins C dx (putF f y fs))) s' ->Q () s'):wpAny (model X.prog X.w) A (setAttr (.ref a) f u) Q E s:=by
 obtain⟨mA,O,r,wi,_,ho⟩:=B1p I.hok e
 have hz:(fs.map (·.1)).length<=sizeLine:=by rw[List.length_map,sizeLine_eq];omega
 refine G2r I.kIn O c.sa c.po n.taker c.hd wi hz fun h' O' sb=>h _ ?_
 have hd:∃o,h'.get? dx=some o:=let⟨o,_,_,e',_⟩:=O'.ns;⟨o,e'⟩
 refine I.write (x:=a) (e:=dx) (by rw[e];exact True.intro) (.inr ho) (fun b q hb z=>(sb.2 b hb).trans z) hd ?_
 refine⟨by rw[D5 O.ne];exact ho,?_,O.ne,O'.obj,_,O'.ns,fun g=>?_,fun g hg=>?_⟩
 . have:=A0u f y fs;omega
 . show A3x ((putF f y fs).lookup g) (if g=f then some u else mA g)
   rw[G2]
   by_cases q:g=f
   . rw[if_pos q,if_pos q];exact ry
   . rw[if_neg q,if_neg q];exact r g
 by_cases q:g=f
 . rw[q];exact(A9w f y fs).1
 refine(A9w f y fs).2 g (wi g fun z=>hg ?_)
 show(if g=f then some u else mA g)=none
 rw[if_neg q];exact z
theorem Inv.made(I:Inv X pins σ H s):Inv X pins σ (upd (upd H s.heap.objs.size (.own (s.heap.objs.size+1))) (s.heap.objs.size+1) (.ins C s.heap.objs.size []))
   {s with heap:=(s.heap.push PySem.W.emptyDict).push (PySem.W.instObj C s.heap.objs.size)}:=by
 have e1:(s.heap.push PySem.W.emptyDict).get? s.heap.objs.size=some PySem.W.emptyDict:=Heap.get?_push_size s.heap rfl
 have e2:((s.heap.push PySem.W.emptyDict).push (PySem.W.instObj C s.heap.objs.size)).get? (s.heap.objs.size+1)=some (PySem.W.instObj C s.heap.objs.size):=by
   have:=Heap.get?_push_size (s.heap.push PySem.W.emptyDict) (o:=PySem.W.instObj C s.heap.objs.size) rfl
   rwa[Heap.size_push] at this
 have e3:(s.heap.push PySem.W.emptyDict).Ns s.heap.objs.size (fun _=>none):=⟨PySem.W.emptyDict, #[],_,e1,rfl,(fun e he=>absurd he (by simp)),fun _=>rfl⟩
 have I1:=I.laid (a:=s.heap.objs.size) (o:= .own (s.heap.objs.size+1)) (h':=s.heap.push PySem.W.emptyDict) (t':=s.toks) (fun b u q=>Heap.get?_push_of_some _ q) (Nat.le_refl _) ⟨_,e1⟩
 refine I1.laid (a:=s.heap.objs.size+1) (o:= .ins C s.heap.objs.size []) (t':=s.toks) (fun b u q=>Heap.get?_push_of_some _ q) (Nat.le_of_eq (Heap.size_push _ _)) ?_
 have ne:s.heap.objs.size≠s.heap.objs.size+1:=Nat.ne_of_lt (Nat.lt_succ_self _)
 refine⟨by rw[D5 ne,A6],Nat.zero_le _,ne,e2,fun _=>none,(Heap.Ns1.of_empty e3).at fun o q=>Heap.get?_push_of_some _ q,fun _=>True.intro,fun y hy=>absurd rfl hy⟩
theorem C4x{prog:Program}{w:World}{env:Env}{e:Expr}{f:Str}{pos:Pos}{s:Shared}{Q:Value ->Shared ->Prop}(hb:attributeBase e f env (eval e env)=eval e env)
   (h:wpAny (model prog w) A (eval e env) (fun o s₁=>wpAny (model prog w) A (getAttr o f true) Q E s₁) E s):wpAny (model prog w) A (eval (.Attribute e f pos) env) Q E s:=
 Attribute_any_ h (by rw[arm_eval_Attribute,hb])
end
noncomputable def J2q (K:PySem.W.Frag) (ta:TE) (f:Str):TE:=fun σ H Q=>ta σ H fun x H1=>∃a C dx fs v,x= .ref a/\H1 a=some (.ins C dx fs)/\Cls K C/\Y6 K C f/\fs.lookup f=some v/\Q v H1
noncomputable def J7m (K:PySem.W.Frag) (ta tv:TE) (f:Str):TS:=fun D σ H=>tv σ H fun y H1=>ta σ H1 fun x H2=>∃a C dx fs,x= .ref a/\H2 a=some (.ins C dx fs)/\Cls K C/\Y6 K C f/\fs.length<1000/\
 D.nx σ (upd H2 a (.ins C dx (putF f y fs)))
section
variable{X:Cx}{o e value:Expr}{f:Str}{pos pos' tpos:Pos}{ta tv:TE}
theorem D3(he:PE X e ta)(hb:attributeBase e f X.env (eval e X.env)=eval e X.env):PE X (.Attribute e f pos) (J2q X.K ta f):=by
 intro pins s σ H Q I h
 refine C4x hb (thn (he pins s σ H _ I h) fun u s1 hh_=>?_)
 obtain⟨x,H1,I1,rx,a,C,dx,fs,v,ex,ea,c,n,l,q⟩:=hh_
 subst ex
 obtain rfl:u=Value.ref a:=rx
 exact C3f I1 ea c n l fun u' s2 I2 ru=>⟨v,H1,I2,ru,q⟩
theorem A0c(ha:PE X o ta)(hv:PE X value tv)(hs:swapsWith value (some (.Attribute o f pos')) pos.line X.env=pure false):PS X (.Assign [.Attribute o f pos'] value pos) (J7m X.K ta tv f):=by
 intro pins s σ H D I h
 refine plainObj_wpAny_Assign_Attribute (thn (hv pins s σ H _ I h) fun u s1 ⟨y,H1,I1,ry,q⟩=>thn (ha pins s1 σ H1 _ I1 q) fun ov s2 hh_=>?_) hs
 obtain⟨x,H2,I2,rx,a,C,dx,fs,ex,ea,c,n,l,q2⟩:=hh_
 subst ex
 obtain rfl:ov=Value.ref a:=rx
 exact C2k I2 ea c n l ry fun s3 I3=>⟨σ,_,I3,q2⟩
end
section
variable{X:Cx}{pins:List (Addr×Obj)}{σ:St}{H:Hp}{s:Shared}{A:Around}{E:Value ->Shared ->Prop}{Q:Value ->Shared ->Prop}{c:Value}{b:Bool}
inductive B0f(K:PySem.W.Frag)(H:Hp):V ->Value ->Prop where
 |non:B0f K H .non (.type "NoneType")
 |bl (x:Bool):B0f K H (.bl x) (.type "bool")
 |int (i:Int):B0f K H (.int i) (.type "int")
 |str (x:Str):B0f K H (.str x) (.type "str")
 |flt (x:UInt64):B0f K H (.flt x) (.type "float")
 |lst {a:Addr} {xs:List V} (e:H a=some (.lst xs)):B0f K H (.ref a) (.type "list")
 |frz {a:Addr} {o:Obj} {xs:List V} (e:H a=some (.frz o (.lst xs))):B0f K H (.ref a) (.type "list")
 |tup {a:Addr} {xs:List V} (e:H a=some (.tup xs)):B0f K H (.ref a) (.type "tuple")
 |dK {a:Addr} {kvs:List (Key×V)} (e:H a=some (.dK kvs)):B0f K H (.ref a) (.type "dict")
 |dT {a:Addr} {kvs:List (List Key×V)} (e:H a=some (.dT kvs)):B0f K H (.ref a) (.type "dict")
 |ins {a C dx:Addr} {fs:List (Str×V)} (e:H a=some (.ins C dx fs)) (cl:Cls K C) (ha:PySem.W.findIn K (.ref C) "__class__"=some (some (.builtin "object.__class__")))
     (hn:PySem.W.specialIn K (.builtin "object.__class__") "__get__"=some (some (.builtin "getset_descriptor.__get__"))) (htk:PySem.W.takesIn K (.builtin "object.__class__")=some true)
     (hm:PySem.W.mroIn K C (.type "object")=some true):B0f K H (.ref a) (.ref C)
theorem C7q{x:V}{u t:Value}(I:Inv X pins σ H s)(rx:U7 x u)(ty:B0f X.K H x t)(e:PySem.W.kitOne X.K t c=some b)(h:∀tk,Q (.bool b) {s with toks:=tk}):
   wpAny (model X.prog X.w) A (call (.builtin "isinstance") [u,c]) Q E s:=by
 cases ty with
 |non=>cases(show u=Value.none from rx);exact PySem.W.kia_one PySem.W.kitx_none I.kIn True.intro e (fun z=>nomatch z) h
 |bl y=>cases(show u=Value.bool y from rx);exact PySem.W.kia_one PySem.W.kitx_bool I.kIn True.intro e (fun z=>nomatch z) h
 |int i=>obtain⟨t,q⟩:=(show∃t,u=Value.int i t from rx);cases q;exact PySem.W.kia_one PySem.W.kitx_int I.kIn True.intro e (fun z=>nomatch z) h
 |str y=>obtain⟨t,q⟩:=(show∃t,u=Value.str y t from rx);cases q;exact PySem.W.kia_one PySem.W.kitx_str I.kIn True.intro e (fun z=>nomatch z) h
 |flt y=>obtain⟨t,q⟩:=(show∃t,u=Value.float y t from rx);cases q;exact PySem.W.kia_one PySem.W.kitx_float I.kIn True.intro e (fun z=>nomatch z) h
 | @lst a xs ea=>
   cases(show u=Value.ref a from rx)
   obtain⟨_,_,n,_,h1⟩:=(show Y4 X.prog X.w H s.heap a (.lst xs) from I.hok a _ ea)
   exact PySem.W.kia_one PySem.W.kitx_list I.kIn ⟨_,h1,rfl⟩ e (fun z=>nomatch z) h
 | @frz a ob xs ea=>
   cases(show u=Value.ref a from rx)
   obtain⟨_,_,_,n,_,h1⟩:=(show Y4 X.prog X.w H s.heap a (.frz ob (.lst xs)) from I.hok a _ ea)
   exact PySem.W.kia_one PySem.W.kitx_list I.kIn ⟨_,h1,rfl⟩ e (fun z=>nomatch z) h
 | @tup a xs ea=>
   cases(show u=Value.ref a from rx)
   obtain⟨_,_,_,p⟩:=(show Y4 X.prog X.w H s.heap a (.tup xs) from I.hok a _ ea)
   obtain⟨o,h1,h2,_⟩:=p
   exact PySem.W.kia_one PySem.W.kitx_tuple I.kIn ⟨o,h1,h2⟩ e (fun z=>nomatch z) h
 | @dK a kvs ea=>
   cases(show u=Value.ref a from rx)
   obtain⟨_,_,vs,_,p⟩:=(show Y4 X.prog X.w H s.heap a (.dK kvs) from I.hok a _ ea)
   obtain⟨o,es,ep,h1,h2,_⟩:=p
   exact PySem.W.kia_one PySem.W.kitx_dict I.kIn ⟨o,h1,h2.1⟩ e (fun z=>nomatch z) h
 | @dT a kvs ea=>
   cases(show u=Value.ref a from rx)
   obtain⟨_,_,xs,_,o,es,ep,h1,h2,_⟩:=(show Y4 X.prog X.w H s.heap a (.dT kvs) from I.hok a _ ea)
   exact PySem.W.kia_one PySem.W.kitx_dict I.kIn ⟨o,h1,h2.1⟩ e (fun z=>nomatch z) h
 | @ins a C dx fs ea cl ha hn htk hm=>
   cases(show u=Value.ref a from rx)
   obtain⟨mA,O,_⟩:=B1p I.hok ea
   obtain⟨od,J,_⟩:=O.look
   exact PySem.W.kia_one (PySem.W.kitx_own (cl.get _) cl.hd ha hn htk hm) I.kIn J e (fun z=>nomatch z) h
end
structure A0j(k:Nat)(A:Around):Prop where
 hd:A.handled=none
 dp:A.depth+3*k+5<recursionLimit
 un:A.units+16*k+200<cLine
theorem A0j.mono{j k:Nat}{A:Around}(r:A0j k A)(h:j<=k):A0j j A:=⟨r.hd,by have:=r.dp;omega,by have:=r.un;omega⟩
theorem A0j.deeper{k:Nat}{A:Around}(r:A0j (k+1) A)(env:Env):A0j k (A.deeper env):=
 ⟨r.hd,by have:=r.dp;show A.depth+1+3*k+5<_;omega,by have:=r.un;show A.units+3+16*k+200<_;omega⟩
theorem C1g{A:Around}{C:Addr}{us:List Value}{kw:List (Str×Value)}:(A.under (.builtin "type.__call__" ⟨.ref C::us,kw⟩)).depth=A.depth+1:=by
 first|rfl|simp[Around.under,Code.weight,Code.isCreation,Code.isGuard,Code.isCaller,Code.frames,Code.isFrame,guardIds]
theorem C3b{A:Around}{C:Addr}{us:List Value}{kw:List (Str×Value)}:(A.under (.builtin "type.__call__" ⟨.ref C::us,kw⟩)).units=A.units+1:=by
 first|rfl|simp[Around.under,Code.cUnits,Code.frames,Code.isFrame]
theorem A0j.make{k:Nat}{A:Around}(r:A0j (k+1) A)(C:Addr)(us:List Value)(kw:List (Str×Value)):A0j k (A.under (.builtin "type.__call__" ⟨.ref C::us,kw⟩)):=
 ⟨r.hd,by have:=r.dp;rw[C1g];omega,by have:=r.un;rw[C3b];omega⟩
theorem A0j.depth{k:Nat}{A:Around}(r:A0j k A):A.depth<recursionLimit:=by have:=r.dp;omega
theorem A0j.units{k:Nat}{A:Around}(r:A0j k A):A.units+64<cLine:=by have:=r.un;omega
noncomputable def C7a:TA:=fun _ H Q=>Q [] H
noncomputable def C0f (ta:TE) (tr:TA):TA:=fun σ H Q=>ta σ H fun x H1=>tr σ H1 fun xs H2=>Q (x::xs) H2
section
variable{X:Cx}{e:Expr}{es:List Expr}{te:TE}{t:TA}{pos:Pos}
theorem A3:PA X [] C7a:=fun _ _ _ _ H Q I h=>Calls.spliced_nil ⟨[],H,I,.nil,h⟩
theorem A0(ha:PE X e te)(hr:PA X es t)(hs:starEach (e::es) X.env=(false,eval e X.env)::starEach es X.env:=by rfl):PA X (e::es) (C0f te t):=by
 intro pos pins s σ H Q I h
 rw[hs]
 show wpAny _ _ (spliced ((false,eval e X.env)::backTo pos (starEach es X.env))) _ _ s
 refine Calls.spliced_cons (thn (ha pins s σ H _ I h) fun u s1 hh_=>?_)
 obtain⟨x,H1,I1,r1,q1⟩:=hh_
 exact thn (hr pos pins s1 σ H1 _ I1 q1) fun us s2 ⟨xs,H2,I2,r2,q2⟩=>⟨x::xs,H2,I2,.cons r1 r2,q2⟩
noncomputable def J5k (t:TA):TE:=fun σ H Q=>t σ H fun xs H1=>xs.length<=sizeLine/\∀p,H1 p=none ->Q (.ref p) (upd H1 p (.tup xs))
noncomputable def J6f (t:TA):TE:=fun σ H Q=>t σ H fun xs H1=>xs.length<=sizeLine/\∀p,H1 p=none ->Q (.ref p) (upd H1 p (.lst xs))
theorem U4{x1}(h:PA X es t):PE X (.Tuple es x1 pos) (J5k t):=by
 intro pins s σ H Q I hq
 refine wpAny_Tuple_spliced (thn (h pos pins s σ H _ I hq) fun us s1 ⟨xs,H1,I1,r,z,q⟩=>⟨by rw[<-r.length];exact z,?_⟩)
 have hf:H1 s1.heap.objs.size=none:=I1.hok.fresh (Nat.le_refl _)
 refine⟨.ref s1.heap.objs.size,upd H1 s1.heap.objs.size (.tup xs),I1.laid (t':=s1.toks) (fun b u e=>Heap.get?_push_of_some _ e) (Nat.le_refl _) ?_,rfl,q _ hf⟩
 exact⟨z,us,r,⟨_,Heap.get?_push_size _ rfl,rfl,_,rfl⟩⟩
theorem G4(h:PA X es t):PE X (.List es pos) (J6f t):=by
 intro pins s σ H Q I hq
 refine wpAny_List_spliced (thn (h pos pins s σ H _ I hq) fun us s1 ⟨xs,H1,I1,r,z,q⟩=>⟨by rw[<-r.length];exact z,?_⟩)
 have hf:H1 s1.heap.objs.size=none:=I1.hok.fresh (Nat.le_refl _)
 refine⟨.ref s1.heap.objs.size,upd H1 s1.heap.objs.size (.lst xs),I1.laid (t':=s1.toks) (fun b u e=>Heap.get?_push_of_some _ e) (Nat.le_refl _) ?_,rfl,q _ hf⟩
 exact⟨z,us,0,r,Heap.get?_push_size _ rfl⟩
end
noncomputable abbrev Sp:=List V ->Hp ->VK ->XK ->Prop
noncomputable abbrev CXT:=List Env ->Hp ->Shared ->XK ->Value ->Shared ->Prop
structure C3j(P:Program)(w:World)(K:PySem.W.Frag)(mg:Str ->Option Value)(base:Heap)(A:Around)(outer:List Env)(s:Shared)(H:Hp):Prop where
 frames:A.frames=some outer
 mod:Mod K mg base
 bs:∀b o,base.get? b=some o ->s.heap.get? b=some o/\H b=none
 bsz:base.objs.size<=s.heap.objs.size
 funs:s.heap.FunFrames base outer
 frf:∀b∈frs outer,H b=none
 hok:HOk P w H s.heap
 bare:AllBare s.gens
noncomputable def CE (outer:List Env) (P:Program) (w:World) (H:Hp) (s:Shared) (Q:VK) (u:Value) (s':Shared):Prop:=
 ∃v H',s'.os=s.os/\AllBare s'.gens/\Un (frs outer) [] H H' s.heap s'.heap/\HOk P w H' s'.heap/\U7 v u/\Q v H'
noncomputable def CR (CX:CXT) (outer:List Env) (P:Program) (w:World) (H:Hp) (s:Shared) (Q:VK) (E:XK) (r:Result) (s':Shared):Prop:=
 match r with
 | .ok (.ret u)=>CE outer P w H s Q u s'
 | .ok _=>False
 | .error e=>CX outer H s E e s'
structure A8(P:Program)(w:World)(K:PySem.W.Frag)(mg:Str ->Option Value)(base:Heap)(CX:CXT)(k:Nat)(f:Addr)(fd:FuncData)(ps:List Str)(sp:Sp):Prop where
 len:∀vs H Q E,sp vs H Q E ->vs.length=ps.length
 run:∀(A:Around) (outer:List Env) (s:Shared) (H:Hp) (args:Args) (us:List Value) (vs:List V) (Q:VK) (E:XK),A0j k A ->C3j P w K mg base A outer s H ->BindsTo s fd args (ps.zip us) ->J1 vs us ->sp vs H Q E ->
   codeAny (model P w) A (.call (.ref f) args) (CR CX outer P w H s Q E) s
theorem A8.mono{P:Program}{w:World}{K:PySem.W.Frag}{mg:Str ->Option Value}{base:Heap}{CX:CXT}{j k:Nat}{f:Addr}{fd:FuncData}{ps:List Str}{sp:Sp}(F:A8 P w K mg base CX j f fd ps sp)(h:j<=k):
   A8 P w K mg base CX k f fd ps sp:=⟨F.len,fun A outer s H args us vs Q E hr=>F.run A outer s H args us vs Q E (hr.mono h)⟩
theorem C3j.make{P:Program}{w:World}{K:PySem.W.Frag}{mg:Str ->Option Value}{base:Heap}{A:Around}{outer:List Env}{s:Shared}{H:Hp}(e:C3j P w K mg base A outer s H)(C:Addr)(us:List Value)(kw:List (Str×Value)):
   C3j P w K mg base (A.under (.builtin "type.__call__" ⟨.ref C::us,kw⟩)) outer s H:=⟨by first|exact e.frames|(simpa[Around.under,Code.envs,Code.isFrame,pushEnvs] using e.frames),e.mod,e.bs,e.bsz,e.funs,e.frf,e.hok,e.bare⟩
section
variable{X:Cx}{pins:List (Addr×Obj)}{σ:St}{H:Hp}{s s':Shared}
theorem Inv.env0(I:Inv X pins σ H s):C3j X.prog X.w X.K X.mg X.base X.A X.stack s H:=
 ⟨I.ok.frames,I.ok.mod,I.bs,Nat.le_trans I.ok.bsz I.sz,I.stack,I.stkFree,I.hok,I.bare⟩
theorem Inv.after{Q:VK}{u:Value}(I:Inv X pins σ H s)(h:CE X.stack X.prog X.w H s Q u s'):EP X pins σ Q u s':=by
 obtain⟨v,H',os,bare,un,hok,r,q⟩:=h
 obtain⟨hh,g,d,t,os'⟩:=s'
 obtain rfl:os'=s.os:=os
 exact⟨v,H',I.call (h':=hh) (g':=g) (d':=d) (t':=t) (ch:=[]) un hok bare (fun b z=>absurd z (by simp)),r,q⟩
end
noncomputable def J1t (C:Addr) (sp:Sp) (dvs:List V) (E:XK) (t:TA):TE:=fun σ H Q=>t σ H fun vs H1=>∀x dx,H1 x=none ->H1 dx=none ->dx≠x ->
 sp (.ref x::(vs++dvs)) (upd (upd H1 dx (.own x)) x (.ins C dx [])) (fun v H2=>v= .non/\Q (.ref x) H2) E
noncomputable def Binds (K:PySem.W.Frag) (fd:FuncData) (ps:List Str) (ds:List Value):Prop:=
 ∀(s:Shared) (us:List Value),K.In s.heap ->(us++ds).length=ps.length ->BindsTo s fd ⟨us,[]⟩ (ps.zip (us++ds))
theorem Binds.all{K:PySem.W.Frag}{fd:FuncData}{ps:List Str}(h:∀us:List Value,us.length=ps.length ->bindArgs fd ⟨us,[]⟩=pure (ps.zip us)):Binds K fd ps []:=fun s us _ hl=>by
 rw[List.append_nil] at hl ⊢
 exact .of_eq (h us hl)
noncomputable def C1u (CX:CXT) (X:Cx) (E:XK):Prop:=∀(pins:List (Addr×Obj)) (σ:St) (H:Hp) (s:Shared) (e:Value) (s':Shared),Inv X pins σ H s ->CX X.stack H s E e s' ->X.xe e s'
section
variable{X:Cx}{CX:CXT}{k:Nat}{f C:Addr}{fd:FuncData}{ps:List Str}{sp:Sp}{dvs:List V}{ds:List Value}{E:XK}{x m:Str}{p pos apos:Pos}{e o:Expr}{es:List Expr}{ta:TE}{t:TA}
structure Mk(K:PySem.W.Frag)(C f:Addr):Prop where
 makes:PySem.W.makesIn K C=true
 init:PySem.W.findIn K (.ref C) "__init__"=some (some (.ref f))
 fn:PySem.W.isFn K (.ref f)=true
 kp:PySem.W.keepIn K (.ref C)=true
theorem D0t{pins:List (Addr×Obj)}{σ:St}{H:Hp}{s:Shared}{Q:VK}{us:List Value}{vs:List V}(M:Mk X.K C f)(F:A8 X.prog X.w X.K X.mg X.base CX k f fd ps sp)(hr:A0j (k+1) X.A)(hb:Binds X.K fd ps ds)(hd:J1 dvs ds)
   (hx:C1u CX X E) (I:Inv X pins σ H s) (r:J1 vs us)
   (h:∀x dx,H x=none ->H dx=none ->dx≠x ->sp (.ref x::(vs++dvs)) (upd (upd H dx (.own x)) x (.ins C dx [])) (fun v H2=>v= .non/\Q (.ref x) H2) E):
   wpAny (model X.prog X.w) X.A (call (.ref C) us) (EP X pins σ Q) X.xe s:=by
 have hq:=h (s.heap.objs.size+1) s.heap.objs.size (I.hok.fresh (Nat.le_succ _)) (I.hok.fresh (Nat.le_refl _)) (Nat.ne_of_lt (Nat.lt_succ_self _))
 have I2:=Inv.made (C:=C) I
 have r2:J1 (V.ref (s.heap.objs.size+1)::(vs++dvs)) (Value.ref (s.heap.objs.size+1)::(us++ds)):= .cons rfl (r.append hd)
 have hl:(Value.ref (s.heap.objs.size+1)::us++ds).length=ps.length:=by
   have e:=r2.length
   rw[F.len _ _ _ _ hq] at e
   exact e.symm
 refine wpAny_call (C0q (f:=f) I.kIn M.makes M.init (beq_iff_eq.mp M.fn) (codeAny_mono (F.run _ X.stack _ _ ⟨Value.ref (s.heap.objs.size+1)::us,[]⟩ (Value.ref (s.heap.objs.size+1)::(us++ds)) _ _ E (hr.make C us [])
   (I2.env0.make C us []) (hb _ (Value.ref (s.heap.objs.size+1)::us) I2.kIn hl) r2 hq) fun r s' hq'=>?_))
 cases r with
 |error e=>exact hx pins σ _ _ e s' I2 hq'
 | ok fl=>
   cases fl with
   | ret u=>
     obtain⟨v,H',I3,rv,ev,q3⟩:=I2.after hq'
     subst ev
     exact⟨rv,⟨V.ref (s.heap.objs.size+1),H',I3,rfl,q3⟩⟩
   |next=>exact False.elim hq'
   |brk=>exact False.elim hq'
   |cont=>exact False.elim hq'
theorem B8a(M:Mk X.K C f)(F:A8 X.prog X.w X.K X.mg X.base CX k f fd ps sp)(hr:A0j (k+1) X.A)(hg:Gl X x)(hm:X.mg x=some (.ref C))(hb:Binds X.K fd ps ds)(hd:J1 dvs ds)(hx:C1u CX X E)
   (ha:PA X (e::es) t) (hdb:(x==("__debug__":Str))=false:=by decide) (he:starEach (e::es) X.env=(false,eval e X.env)::starEach es X.env:=by rfl) (hpl:(backTo pos (starEach es X.env)).any (·.1)=false:=by rfl):
   PE X (.Call (.Name x p) (e::es) [] pos) (J1t C sp dvs E t):=by
 intro pins s σ H Q I h
 refine wpAny_Call_Name_kw (A1w I hg hm ?_ hdb)
 refine PySem.W.callWith_K (h₀:=X.base) I.ok.mod.kin M.kp (thn (ha pos pins s σ H _ I h) fun us s1 ⟨vs,H1,I1,r,q⟩=>⟨I1.kIn,?_⟩) he hpl
 exact D0t M F hr hb hd hx I1 r q
end
section
variable{X:Cx}{CX:CXT}{k:Nat}{f C:Addr}{fd:FuncData}{ps ks:List Str}{sp:Sp}{E:XK}{x m:Str}{p pos apos kpos:Pos}{e o:Expr}{es:List Expr}{kws:List Keyword}{te ta:TE}{t tk:TA}{nm:Option Str}
structure D4k(K:PySem.W.Frag)(fd:FuncData)(ps ks:List Str)(g:List Value ->List Value ->List Value)(gV:List V ->List V ->List V):Prop where
 to:∀(s:Shared) (us ws:List Value),K.In s.heap ->(g us ws).length=ps.length ->BindsTo s fd ⟨us,ks.zip ws⟩ (ps.zip (g us ws))
 rel:∀{vs:List V} {us:List Value} {zs:List V} {ws:List Value},J1 vs us ->J1 zs ws ->J1 (gV vs zs) (g us ws)
variable{g:List Value ->List Value ->List Value}{gV:List V ->List V ->List V}
end
structure B7(N P:List Str)(sc:Scope):Prop where
 kind:sc.kind= .function
 co:sc.isCoroutine=false
 gen:sc.isGenerator=false
 nd:N.Nodup
 pre:N.take P.length=P
 par:∀x∈P,sc.names.lookup x=some .local\/sc.names.lookup x=some .cell
 nofree:∀y∈sc.names,y.2≠ .free
theorem B5s{kindOf:Str ->Option NameKind}{x:Str}:∀{binds:List (Str×Value)} {m:Str ->Option Value},(∀v,(x,v) ∉ binds) ->bindL kindOf binds m x=m x
 | [],_,_=>rfl
 | (n,v)::r,m,h=>by
   unfold bindL
   rw[B5s fun w hw=>h w (List.mem_cons_of_mem _ hw)]
   split
   . have:x≠n:=by rintro rfl;exact h v List.mem_cons_self
     simp[this]
   . rfl
theorem B6h{kindOf:Str ->Option NameKind}{x:Str}:∀{binds:List (Str×Value)} {m:Str ->Option Value},(∀v,(x,v) ∉ binds) ->bindC kindOf binds m x=m x
 | [],_,_=>rfl
 | (n,v)::r,m,h=>by
   unfold bindC
   rw[B6h fun w hw=>h w (List.mem_cons_of_mem _ hw)]
   split
   . rfl
   . have:x≠n:=by rintro rfl;exact h v List.mem_cons_self
     simp[this]
theorem B5t{kindOf:Str ->Option NameKind}{x:Str}{v:Value}:∀{P:List Str} {vs:List Value} {i:Nat} {m:Str ->Option Value},P.Nodup ->P[i]?=some x ->vs[i]?=some v ->kindOf x=some .local ->
   bindL kindOf (P.zip vs) m x=some v
 | [],_,_,_,_,h,_,_=>by simp at h
 |_::_,[],_,_,_,_,h,_=>by simp at h
 | p::P,w::vs,0,m,nd,h1,h2,hk=>by
   simp at h1 h2;subst h1;subst h2
   show bindL kindOf ((p,w)::P.zip vs) m p=_
   unfold bindL
   rw[B5s fun v hv=>(List.nodup_cons.mp nd).1 (List.of_mem_zip hv).1,if_pos hk]
   simp
 | p::P,w::vs,i+1,m,nd,h1,h2,hk=>by
   show bindL kindOf ((p,w)::P.zip vs) m x=_
   unfold bindL
   exact B5t (i:=i) (List.nodup_cons.mp nd).2 (by simpa using h1) (by simpa using h2) hk
theorem B5r{kindOf:Str ->Option NameKind}{x:Str}{v:Value}:∀{P:List Str} {vs:List Value} {i:Nat} {m:Str ->Option Value},P.Nodup ->P[i]?=some x ->vs[i]?=some v ->kindOf x≠some .local ->
   bindC kindOf (P.zip vs) m x=some v
 | [],_,_,_,_,h,_,_=>by simp at h
 |_::_,[],_,_,_,_,h,_=>by simp at h
 | p::P,w::vs,0,m,nd,h1,h2,hk=>by
   simp at h1 h2;subst h1;subst h2
   show bindC kindOf ((p,w)::P.zip vs) m p=_
   unfold bindC
   rw[B6h fun v hv=>(List.nodup_cons.mp nd).1 (List.of_mem_zip hv).1,if_neg hk]
   simp
 | p::P,w::vs,i+1,m,nd,h1,h2,hk=>by
   show bindC kindOf ((p,w)::P.zip vs) m x=_
   unfold bindC
   exact B5r (i:=i) (List.nodup_cons.mp nd).2 (by simpa using h1) (by simpa using h2) hk
noncomputable def A6p (N:List Str) (vs:List V):St:=vs.map some++List.replicate (N.length-vs.length) none
noncomputable def A1j (CX:CXT) (P:Program) (w:World) (K:PySem.W.Frag) (mg:Str ->Option Value) (base:Heap) (N:List Str) (qual:Str) (scope:Scope) (f:Addr) (cd:Value) (A:Around) (outer:List Env) (s:Shared) (H:Hp) (E:XK):Cx where
 prog:=P
 w:=w
 K:=K
 mg:=mg
 base:=base
 A:=A.deeper (envOfC qual scope s.heap.objs.size f cd)
 N:=N
 s₀:=s
 H₀:=H
 env:=envOfC qual scope s.heap.objs.size f cd
 outer:=outer
 stack:=envOfC qual scope s.heap.objs.size f cd::outer
 ex:=[]
 calm:=true
 fn:=fun _=>true
 pn:=[]
 xe:=fun e s'=>wpAny (model P w) (A.deeper (envOfC qual scope s.heap.objs.size f cd)) (leaving (envOfC qual scope s.heap.objs.size f cd) e) (fun _ s''=>CX outer H s E e s'') (fun e' s''=>CX outer H s E e' s'') s'
theorem B9a{sc:Scope}{n:Nat}{x:Str}(h:sc.names.lookup x=some .cell):∃c,(cellsFrom n sc.names []).lookup x=some c:=by
 have q:=PySem.W.cellsFrom_some sc.names n [] (.inl h)
 exact Option.isSome_iff_exists.mp q
theorem C6q{CX:CXT}{P:Program}{w:World}{K:PySem.W.Frag}{mg:Str ->Option Value}{base:Heap}{N ps:List Str}{qual:Str}{scope:Scope}{f:Addr}{cd:Value}{A:Around}{outer:List Env}{s s1:Shared}{H:Hp}{E:XK}{us:List Value}{vs:List V}
   (S:B7 N ps scope) (hd:A.handled=none) (e0:C3j P w K mg base A outer s H) (hl:vs.length=ps.length) (r:J1 vs us)
   (x:InCallC s s.heap.objs.size (bindL (envOfC qual scope s.heap.objs.size f cd).kindOf (ps.zip us) fun _=>none) (cellsFrom (s.heap.objs.size+1) scope.names []) (bindC (envOfC qual scope s.heap.objs.size f cd).kindOf (ps.zip us) fun _=>none) s1):
   Inv (A1j CX P w K mg base N qual scope f cd A outer s H E) [] (A6p N vs) H s1:=by
 have hpl:ps.length<=N.length:=by have:=congrArg List.length S.pre;rw[List.length_take] at this;omega
 obtain⟨h1,tk,rfl,hk⟩:=x.done
 have noA:∀b:Addr,b ∉ (A1j CX P w K mg base N qual scope f cd A outer s H E).ex:=fun b z=>absurd (show b∈([]:List Addr) from z) (by simp)
 refine⟨⟨e0.mod,S.kind,rfl,rfl,Nat.le_refl _,fun y z c h1 h2=>?_,fun y hy=>?_,fun y c _ h=>?_,fun _=>hd,Around.frames_deeper e0.frames,.inr ⟨rfl,rfl⟩,fun b z=>absurd z (noA b),e0.bs,e0.bsz,fun b _ _=>noA b,fun b z=>absurd z (noA b),e0.funs,e0.frf⟩,
   rfl,e0.bare,Un.kept hk,⟨_,x.toInCall.ns,fun i y v h1 h2 h3=>?_⟩,fun y c h=>⟨_,x.cell y c h⟩,e0.hok.fresh (Nat.le_refl _),fun y c h=>?_,fun p hp=>absurd (show p∈([]:List (Addr×Obj)) from hp) (by simp),e0.hok.kept hk,?_⟩
 . exact name_of_addr x.apart (PySem.mem_of_lookup h1) (PySem.mem_of_lookup h2)
 . have hy:scope.names.lookup y=some .cell\/scope.names.lookup y=some .free:=hy
   rcases hy with hy|hy
   . exact B9a hy
   . exact absurd rfl (S.nofree _ (PySem.mem_of_lookup hy))
 . exact Nat.le_of_lt (x.above y c (PySem.mem_of_lookup h))
 . have hi:i<vs.length:=by
     unfold A6p at h2
     by_cases hi:i<vs.length
     . exact hi
     . rw[List.getElem?_append_right (by simpa using hi)] at h2
       rw[List.getElem?_replicate] at h2
       split at h2<;>cases h2
   have ha:vs[i]?=some v:=by
     unfold A6p at h2
     rw[List.getElem?_append_left (by simpa using hi),List.getElem?_map] at h2
     cases e:vs[i]? with
     |none=>rw[e] at h2;cases h2
     |some a=>rw[e] at h2;cases h2;rfl
   obtain⟨u,hu,rv⟩:=r.get ha
   have hp:ps[i]?=some y:=by
     rw[<-S.pre,List.getElem?_take_of_lt (by omega)];exact h1
   have ndP:ps.Nodup:=by rw[<-S.pre];exact S.nd.sublist (List.take_sublist _ _)
   refine⟨u,rv,?_⟩
   rcases S.par y (List.mem_of_getElem? hp) with k|k
   . exact .inl ⟨k,B5t ndP hp hu k⟩
   . obtain⟨c,e⟩:=B9a (n:=s.heap.objs.size+1) k
     refine .inr ⟨.inl k,c,e,?_⟩
     have q:=x.cell y c e
     rw[B5r ndP hp hu (by show scope.names.lookup y≠_;rw[k];decide)] at q
     exact q
 . exact e0.hok.fresh (Nat.le_of_lt (x.above y c (PySem.mem_of_lookup h)))
 unfold A6p
 show _=N.length
 rw[List.length_append,List.length_map,List.length_replicate]
 omega
theorem D3c{CX:CXT}{P:Program}{w:World}{K:PySem.W.Frag}{mg:Str ->Option Value}{base:Heap}{k:Nat}{f:Addr}{name qual:Str}{params:Arguments}{body:List Stmt}{scope:Scope}{dV kV doc pm cdv ct oc:Value}{an od:Option Addr}
   {osl:Array (Option Value)} {N ps:List Str} {sp:Sp} (lk:K.lookup f=some ⟨oc,od,.func (PySem.W.fnOf name qual params body scope dV kV doc pm an cdv ct),osl⟩) (hcd:PySem.W.codeIn K cdv qual=true) (S:B7 N ps scope)
   (len:∀vs H Q E,sp vs H Q E ->vs.length=ps.length)
   (hbody:∀(A:Around) (outer:List Env) (s:Shared) (H:Hp) (vs:List V) (Q:VK) (E:XK),A0j k (A.deeper (envOfC qual scope s.heap.objs.size f cdv)) ->sp vs H Q E ->
     ∃t,PSs (A1j CX P w K mg base N qual scope f cdv A outer s H E) body t/\t {nx:=fun _ H'=>Q .non H',rt:=Q} (A6p N vs) H):
   A8 P w K mg base CX (k+1) f (PySem.W.fnOf name qual params body scope dV kV doc pm an cdv ct) ps sp:=by
 refine⟨len,fun A outer s H args us vs Q E hr e0 hb r hsp=>?_⟩
 have hl:=len _ _ _ _ hsp
 have KX:K.In s.heap:=e0.mod.kin.keeps fun b o e=>(e0.bs b o e).1
 have lim:s.heap.NoLimit:=e0.mod.nolimit.keeps fun b o e=>(e0.bs b o e).1
 have hkind:∀y∈ps.zip us,scope.names.lookup y.1=some .local\/(scope.names.lookup y.1=some .cell/\((cellsFrom (s.heap.objs.size+1) scope.names []).lookup y.1).isSome=true):=fun⟨n,v⟩ hy=>by
   rcases S.par n (List.of_mem_zip hy).1 with q|q
   . exact .inl q
   . exact .inr ⟨q,PySem.W.cellsFrom_some _ _ _ (.inl q)⟩
 refine codeAny_call_function hr.depth (KX _ _ lk) rfl S.co S.gen rfl (PySem.W.codeRec_of KX hcd) (hb _ _ _ _ ?_)
 refine wpAny_newFunctionEnv_cells S.kind hkind fun env he s1 x=>?_
 subst he
 refine⟨lim.keeps x.toInCall.keep,codeAny_func ?_⟩
 obtain⟨t,ht,hq⟩:=hbody A outer s H vs Q E (hr.deeper _) hsp
 have I:Inv (A1j CX P w K mg base N qual scope f cdv A outer s H E) [] (A6p N vs) H s1:=C6q S hr.hd e0 hl r x
 refine wpAny_mono (ht [] s1 (A6p N vs) H _ I hq) (fun fl s' hs=>?_) fun e s' hs=>hs
 have fin:∀{σ':St} {H':Hp} {v:V} {u:Value},Inv (A1j CX P w K mg base N qual scope f cdv A outer s H E) [] σ' H' s' ->U7 v u ->Q v H' ->CE outer P w H s Q u s':=
   fun{σ' H' v u} J rv q=>⟨v,H',J.os,J.bare,J.base,J.hok,rv,q⟩
 cases fl with
 | ret u=>
   obtain⟨v,σ',H',J,rv,q⟩:=hs
   exact fin J rv q
 | next=>
   obtain⟨σ',H',J,q⟩:=hs
   exact fin (v:=V.non) (u:=Value.none) J rfl q
 | brk=>
   obtain⟨_,_,_,q⟩:=hs
   exact False.elim q
 | cont=>
   obtain⟨_,_,_,q⟩:=hs
   exact False.elim q
section
variable{X:Cx}{x:Str}{p pos:Pos}{e:Expr}{es:List Expr}{t:TA}{id T:String}{r:List V ->Hp ->VK ->Prop}
noncomputable def tCB (r:List V ->Hp ->VK ->Prop) (t:TA):TE:=fun σ H Q=>t σ H fun vs H1=>r vs H1 Q
theorem G7(hc:A3s X (.builtin id) r)(hg:Gl X x)(hm:X.mg x=none)(hv:bootBuiltins x=some (.builtin id))(ha:PA X (e::es) t)(hn:x≠"__name__":=by decide)(hdb:(x==("__debug__":Str))=false:=by decide)
   (he:starEach (e::es) X.env=(false,eval e X.env)::starEach es X.env:=by rfl) (hpl:(backTo pos (starEach es X.env)).any (·.1)=false:=by rfl):PE X (.Call (.Name x p) (e::es) [] pos) (tCB r t):=by
 intro pins s σ H Q I h
 refine wpAny_Call_Name_kw (A9q I hg hm hv ?_ hn hdb)
 exact PyProof.Rows.callWith_builtin1 (thn (ha pos pins s σ H _ I h) fun us s1 ⟨vs,H1,I1,r1,q1⟩=>hc pins s1 σ H1 vs us Q I1 r1 q1) he hpl
theorem Y7(hc:A3s X (.type T) r)(hg:Gl X x)(hm:X.mg x=none)(hv:bootBuiltins x=some (.type T))(ha:PA X (e::es) t)(hn:x≠"__name__":=by decide)(hdb:(x==("__debug__":Str))=false:=by decide)
   (he:starEach (e::es) X.env=(false,eval e X.env)::starEach es X.env:=by rfl) (hpl:(backTo pos (starEach es X.env)).any (·.1)=false:=by rfl):PE X (.Call (.Name x p) (e::es) [] pos) (tCB r t):=by
 intro pins s σ H Q I h
 refine wpAny_Call_Name_kw (A9q I hg hm hv ?_ hn hdb)
 exact PyProof.Rows.callWith_type1 (thn (ha pos pins s σ H _ I h) fun us s1 ⟨vs,H1,I1,r1,q1⟩=>hc pins s1 σ H1 vs us Q I1 r1 q1) he hpl
end
end L2
namespace HT
open PySem PyProof.Rows
section
open PySem.SeqAt
open PySem.AutoSeq1 (wpAny_loadPart')
open PySem.MeetsSeq PySem.MeetsSeq2 PySem.MeetsSeq3
end
section
variable{prog:Program}{w:World}{A:Around}{E:Value ->Shared ->Prop}{s:Shared}
noncomputable def sIx (n d:Nat):Option Int ->Nat
 |none=>d
 |some v=>if v<0 then(v+(n:Int)).toNat else min v.toNat n
theorem G5c(n d:Nat)(hd:d<=n)(o:Option Int):sIx n d o<=n:=by
 cases o with
 |none=>exact hd
 | some v=>
   show(if v<0 then(v+(n:Int)).toNat else min v.toNat n)<=n
   by_cases hv:v<0
   . rw[if_pos hv];omega
   . rw[if_neg hv];exact Nat.min_le_right _ _
theorem C5d(v:Int)(n d:Nat):(if v<0 then max (v+(n:Int)) 0 else min v (n:Int))=((sIx n d (some v):Nat):Int):=by
 show(if v<0 then max (v+(n:Int)) 0 else min v (n:Int))=(((if v<0 then(v+(n:Int)).toNat else min v.toNat n):Nat):Int)
 by_cases hv:v<0
 . simp only[if_pos hv];omega
 simp only[if_neg hv];omega
theorem C2a(lo hi:Option Int)(n:Nat):Builtin.Slice.sliceAdjust lo hi 1 (n:Int)=(((sIx n 0 lo:Nat):Int),((sIx n n hi:Nat):Int)):=by
 have h1:¬((1:Int)<0):=by omega
 unfold Builtin.Slice.sliceAdjust
 simp only[h1,if_false]
 refine Prod.ext ?_ ?_
 . cases lo with
   |none=>rfl
   |some v=>exact C5d v n 0
 cases hi with
 |none=>rfl
 |some v=>exact C5d v n n
theorem C2q(i j:Nat):Builtin.Slice.slicePlaces (i:Int) (j:Int) 1=j-i:=by
 unfold Builtin.Slice.slicePlaces
 have h1:(1:Int)>0:=by omega
 simp only[h1,if_true,Int.ediv_one]
 split<;>omega
theorem B2y{v:Value}{o:Option Int}{Q:Option Int ->Shared ->Prop}(p:IsPart v o)(h:Q o s):wpAny (model prog w) A (Builtin.Slice.slicePartIndex v) Q E s:=by
 cases p with
 |none=>exact slicePart_none h
 |int i t=>exact slicePart_int h
theorem A9v{sl:Addr}{vl vu:Value}{lo hi:Option Int}{n:Nat}{Q:Int×Int×Nat ->Shared ->Prop}(hs:s.heap.IsSliceOf sl vl vu .none)(pl:IsPart vl lo)(pu:IsPart vu hi)
   (h:Q (((sIx n 0 lo:Nat):Int),1,sIx n n hi-sIx n 0 lo) s):wpAny (model prog w) A (Builtin.Slice.sliceApplied (.ref sl) (pure (n:Int))) Q E s:=by
 obtain⟨os,hos,hcs,hds⟩:=id hs
 unfold Builtin.Slice.sliceApplied Builtin.Slice.sliceFields
 refine wpAny_bind (wpAny_bind (wpAny_field hos hds (x:=vl) rfl (wpAny_bind (wpAny_field hos hds (x:=vu) rfl (wpAny_bind (wpAny_field hos hds (x:= .none) rfl (wpAny_pure ?_)))))))
 refine wpAny_bind (slicePart_none ?_)
 show wpAny _ _ (if((1:Int)==0)=true then _ else _) _ _ s
 rw[if_neg (by decide)]
 refine wpAny_bind (B2y pl (wpAny_bind (B2y pu (wpAny_bind (wpAny_pure ?_)))))
 show wpAny _ _ (match Builtin.Slice.sliceAdjust lo hi 1 (n:Int) with|(lo,hi)=>pure (lo,(1:Int),Builtin.Slice.slicePlaces lo hi 1)) _ _ s
 rw[C2a lo hi n]
 show wpAny _ _ (pure (((sIx n 0 lo:Nat):Int),(1:Int),Builtin.Slice.slicePlaces ((sIx n 0 lo:Nat):Int) ((sIx n n hi:Nat):Int) 1)) _ _ s
 rw[C2q]
 exact wpAny_pure h
theorem D0w(xs:Array Value)(i k:Nat):((List.range k).filterMap fun(m:Nat)=>xs[((i:Int)+(m:Int)*1).toNat]?).toArray=((xs.toList.drop i).take k).toArray:=by
 have e:(fun(m:Nat)=>xs[((i:Int)+(m:Int)*1).toNat]?)=fun m=>xs[i+m]?:=by
   funext m
   have:((i:Int)+(m:Int)*1).toNat=i+m:=by omega
   rw[this]
 rw[e]
 have:=pick_run xs i k
 rw[List.filterMap_map] at this
 have e2:((fun x=>xs[x]?)∘fun x=>i+x)=fun m=>xs[i+m]?:=rfl
 rw[e2] at this
 rw[this]
theorem getItem_tuple_cut{t sl:Addr}{items:Array Value}{vl vu:Value}{lo hi:Option Int}{Q:Value ->Shared ->Prop}(ht:IsTup s.heap t items)(hs:s.heap.IsSliceOf sl vl vu .none)(pl:IsPart vl lo)(pu:IsPart vu hi)
   (hw:¬(sIx items.size 0 lo=0/\sIx items.size items.size hi=items.size))
   (h:Q (.ref s.heap.objs.size) {s with heap:=s.heap.push {cls:= .type "tuple",data:= .seq ((items.toList.drop (sIx items.size 0 lo)).take (sIx items.size items.size hi-sIx items.size 0 lo)).toArray}})
   (hsz:items.size<=sizeLine):wpAny (model prog w) A (getItem (.ref t) (.ref sl)) Q E s:=by
 have htake:sizeOk (.seq ((items.toList.drop (sIx items.size 0 lo)).take (sIx items.size items.size hi-sIx items.size 0 lo)).toArray):=by
   show((items.toList.drop (sIx items.size 0 lo)).take (sIx items.size items.size hi-sIx items.size 0 lo)).toArray.size<=sizeLine
   rw[List.size_toArray,List.length_take,List.length_drop,Array.length_toList]
   omega
 have hj:sIx items.size items.size hi<=items.size:=G5c _ _ (Nat.le_refl _) hi
 obtain⟨os,hos,hcs,hds⟩:=id hs
 have hTs:s.TypeIs (.ref sl) "slice":=⟨os,hos,hcs⟩
 unfold getItem
 try with_reducible refine wpAny_holding ?_
 first|refine wpAny_bind (wpAny_pure ?_)|skip
 refine wpAny_bind (wpAny_sequenceKey ht.typeIs (by decide) ?_)
 refine wpAny_bind (wpAny_callSpecial?_slot (name:=Str.ofString "__getitem__") ht.typeIs PyProof.Rows.slot_tuple_getitem
   (wpAny_call_entry PyProof.Rows.slot_tuple_getitem ht.typeIs entry_tuple_getitem ?_ (args_tuple_getitem _ _)))
 show wpAny _ _ (Builtin.Tuple.tupleItemsOf (.ref t)>>=_) _ _ s
 refine wpAny_bind (tupleItemsOf_ ht ?_)
 refine wpAny_bind (wpAny_typeOf hTs ?_)
 rw[if_pos (by decide)]
 refine wpAny_bind (A9v hs pl pu ?_)
 have hno:¬((((sIx items.size 0 lo:Nat):Int)==0&&(1:Int)==1&&(sIx items.size items.size hi-sIx items.size 0 lo)==items.size)=true):=by
   intro q
   rw[Bool.and_eq_true,Bool.and_eq_true] at q
   have q1:((sIx items.size 0 lo:Nat):Int)=0:=eq_of_beq q.1.1
   have q2:sIx items.size items.size hi-sIx items.size 0 lo=items.size:=eq_of_beq q.2
   exact hw ⟨by omega,by omega⟩
 show wpAny _ _ (if(((sIx items.size 0 lo:Nat):Int)==0&&(1:Int)==1&&(sIx items.size items.size hi-sIx items.size 0 lo)==items.size)=true then _ else _) _ _ s
 rw[if_neg hno,D0w]
 first
   |exact wpAny_bind (m:=Builtin.Tuple.tupleExact _) (wpAny_newObj_type (wpAny_pure ⟨_,rfl,wpAny_pure h⟩) htake)
   |exact wpAny_bind (m:=Builtin.Tuple.tupleExact _) (wpAny_newObj_type (wpAny_bind (wpAny_pure (wpAny_pure ⟨_,rfl,wpAny_pure h⟩))) htake)
   |exact wpAny_bind (wpAny_bind (m:=Builtin.Tuple.tupleExact _) (wpAny_newObj_type (wpAny_pure (wpAny_pure ⟨_,rfl,wpAny_pure h⟩)) htake))
   |exact wpAny_bind (wpAny_bind (m:=Builtin.Tuple.tupleExact _) (wpAny_newObj_type (wpAny_pure ⟨_,rfl,wpAny_pure h⟩) htake))
end
end HT
namespace L2
open PySem PySem.Spec PyProof.Rows
noncomputable abbrev TO:=St ->Hp ->(Option Int ->Hp ->Prop) ->Prop
noncomputable def PO (X:Cx) (e:Option Expr) (t:TO):Prop:=
 ∀ (pins:List (Addr×Obj)) (s:Shared) (σ:St) (H:Hp) (Q:Option Int ->Hp ->Prop),Inv X pins σ H s ->t σ H Q ->
   wpAny (model X.prog X.w) X.A (evalPart e X.env) (fun u s'=>∃o H',Inv X pins σ H' s'/\IsPart u o/\Q o H') X.xe s
noncomputable def G1d:TO:=fun _ H Q=>Q none H
noncomputable def J2v (t:TE):TO:=fun σ H Q=>t σ H fun x H1=>∃i,x= .int i/\Q (some i) H1
section
variable{X:Cx}{e:Expr}{te:TE}{lo hi:Option Expr}{tl th:TO}{pos p2:Pos}
theorem C5m:PO X none G1d:=by
 intro pins s σ H Q I h
 rw[evalPart_none]
 exact wpAny_pure ⟨none,H,I,.none,h⟩
theorem C4f(h:PE X e te):PO X (some e) (J2v te):=by
 intro pins s σ H Q I hw
 rw[evalPart_some]
 refine thn (h pins s σ H _ I hw) fun u s1 hh_=>?_
 obtain⟨x,H1,I1,r1,q1⟩:=hh_
 obtain⟨i,rfl,q⟩:=q1
 obtain⟨t,rfl⟩:=r1
 exact⟨some i,H1,I1,.int i t,q⟩
noncomputable def SlR (X:Cx) (r:V ->Option Int ->Option Int ->Hp ->VK ->Prop):Prop:=
 ∀ (pins:List (Addr×Obj)) (s:Shared) (σ:St) (H:Hp) (x:V) (v vl vu:Value) (lo hi:Option Int) (sl:Addr) (Q:VK),Inv X pins σ H s ->U7 x v ->s.heap.IsSliceOf sl vl vu .none ->IsPart vl lo ->IsPart vu hi ->r x lo hi H Q ->
   ∃T id,typeLookup (.type T) "__getitem__"=pure (some (.builtin id))/\s.TypeIs v T/\wpAny (model X.prog X.w) X.A (getItem v (.ref sl)) (EP X pins σ Q) X.xe s
noncomputable def tSl (r:V ->Option Int ->Option Int ->Hp ->VK ->Prop) (te:TE) (tl th:TO):TE:=fun σ H Q=>te σ H fun x H1=>tl σ H1 fun l H2=>th σ H2 fun u H3=>r x l u H3 Q
theorem B9e{r:V ->Option Int ->Option Int ->Hp ->VK ->Prop}(hr:SlR X r)(he:PE X e te)(hl:PO X lo tl)(hu:PO X hi th):PE X (.Subscript e (.Slice lo hi none p2) pos) (tSl r te tl th):=by
 intro pins s σ H Q I h
 refine Subscript_ (thn (he pins s σ H _ I h) fun v s1 hh_=>?_)
 obtain⟨x,H1,I1,r1,q1⟩:=hh_
 refine wpAny_Slice (thn (hl pins s1 σ H1 _ I1 q1) fun vl s2 ⟨l,H2,I2,pl,q2⟩=>thn (hu pins s2 σ H2 _ I2 q2) fun vu s3 hh_=>?_)
 obtain⟨u,H3,I3,pu,q3⟩:=hh_
 rw[evalPart_none]
 refine wpAny_pure ?_
 have I4:Inv X pins σ H3 {s3 with heap:=s3.heap.push {cls:= .type "slice",data:= .fields #[vl,vu,.none]}}:=I3.kept (t':=s3.toks) fun b ob q=>Heap.get?_push_of_some _ q
 obtain⟨T,id,hT,ht,hg⟩:=hr pins {s3 with heap:=s3.heap.push {cls:= .type "slice",data:= .fields #[vl,vu,.none]}} σ H3 x v vl vu l u s3.heap.objs.size Q I4 r1 (Heap.IsSliceOf.new ..) pl pu q3
 show wpAny (model X.prog X.w) X.A (subscriptTail e (.Slice lo hi none p2) v (.ref s3.heap.objs.size)) (EP X pins σ Q) X.xe {s3 with heap:=s3.heap.push {cls:= .type "slice",data:= .fields #[vl,vu,.none]}}
 exact tail_any (ops:=[.ref s3.heap.objs.size,v]) ht hT hg (by with_unfolding_all rfl)
noncomputable def B8m (xs:List V) (lo hi:Option Int):List V:=(xs.drop (HT.sIx xs.length 0 lo)).take (HT.sIx xs.length xs.length hi-HT.sIx xs.length 0 lo)
theorem B0t(xs:List V)(lo hi:Option Int):(B8m xs lo hi).length<=xs.length:=by
 unfold B8m
 rw[List.length_take,List.length_drop]
 omega
noncomputable def J5j (K:PySem.W.Frag):V ->Option Int ->Option Int ->Hp ->VK ->Prop:=fun x lo hi H Q=>∃a xs,x= .ref a/\SqT K H a xs/\
 ¬(HT.sIx xs.length 0 lo=0/\HT.sIx xs.length xs.length hi=xs.length)/\∀p,H p=none ->Q (.ref p) (upd H p (.tup (B8m xs lo hi)))
theorem G6x:SlR X (J5j X.K):=by
 intro pins s σ H x v vl vu lo hi sl Q I rx hs pl pu h
 obtain⟨a,xs,rfl,hx,hw,q⟩:=h
 cases rx
 obtain⟨its,r,ht,hz⟩:=I.tuple hx
 have hlen:its.toArray.size=xs.length:=by rw[List.size_toArray];exact r.length.symm
 refine⟨"tuple",_,PyProof.Rows.slot_tuple_getitem.lookup,ht.typeIs,?_⟩
 refine HT.getItem_tuple_cut ht hs pl pu (by rw[hlen];exact hw) ?_ (by rw[hlen];exact hz)
 rw[hlen]
 refine⟨.ref s.heap.objs.size,_,I.laid (t':=s.toks) (o:= .tup (B8m xs lo hi)) (fun b ob q=>Heap.get?_push_of_some _ q) (Nat.le_refl _) ?_,rfl,q _ (I.hok.fresh (Nat.le_refl _))⟩
 exact⟨Nat.le_trans (B0t xs lo hi) hz,_,(r.drop (HT.sIx xs.length 0 lo)).take (HT.sIx xs.length xs.length hi-HT.sIx xs.length 0 lo),IsTup.new _ _⟩
end
noncomputable def ixN (n:Nat) (i:Int):Option Nat:=if 0<=i then(if i<n then some i.toNat else none) else if -(n:Int)<=i then some (i+n).toNat else none
noncomputable def atI {α:Type} (xs:List α) (i:Int):Option α:=(ixN xs.length i).bind fun j=>xs[j]?
theorem G3m{n:Nat}{i:Int}{j:Nat}(h:ixN n i=some j):seqIndex? i n=some j/\j<n/\ -(n:Int)<=i/\i<n:=by
 unfold ixN at h
 by_cases h0:0<=i
 . rw[if_pos h0] at h
   by_cases h1:i<n
   . rw[if_pos h1] at h
     have e:i.toNat=j:=Option.some.inj h
     exact⟨by rw[seqIndex_of h0 h1,e],by omega,by omega,h1⟩
   . rw[if_neg h1] at h;cases h
 rw[if_neg h0] at h
 by_cases h1: -(n:Int)<=i
 . rw[if_pos h1] at h
   have e:(i+n).toNat=j:=Option.some.inj h
   exact⟨by rw[seqIndex_neg (by omega) h1,e],by omega,h1,by omega⟩
 rw[if_neg h1] at h;cases h
theorem C3v{α:Type}{xs:List α}{i:Int}{v:α}(h:atI xs i=some v):∃j,seqIndex? i xs.length=some j/\xs[j]?=some v/\j<xs.length/\ -(xs.length:Int)<=i/\i<xs.length:=by
 unfold atI at h
 cases e:ixN xs.length i with
 |none=>rw[e] at h;cases h
 | some j=>
   rw[e] at h
   obtain⟨h1,h2,h3,h4⟩:=G3m e
   exact⟨j,h1,h,h2,h3,h4⟩
theorem C0{α:Type}{xs:List α}{j:Nat}{v:α}(h:xs[j]?=some v):atI xs (j:Int)=some v:=by
 have hj:j<xs.length:=(List.getElem?_eq_some_iff.mp h).1
 have e:ixN xs.length (j:Int)=some j:=by
   unfold ixN
   rw[if_pos (by omega),if_pos (by omega)];simp
 unfold atI;rw[e];exact h
noncomputable def G0q (b:Expr):Prop:=∀o i,subscripted b false o i=operate [o,i] (getItem o i)
noncomputable def IxR (X:Cx) (r:R2):Prop:=
 ∀ (value slice:Expr) (pins:List (Addr×Obj)) (s:Shared) (σ:St) (H:Hp) (x y:V) (v u:Value) (Q:VK),Inv X pins σ H s ->U7 x v ->U7 y u ->r x y H Q ->
   subscripted slice false v u=operate [v,u] (getItem v u) ->wpAny (model X.prog X.w) X.A (subscriptTail value slice v u) (EP X pins σ Q) X.xe s
noncomputable def MtR (X:Cx) (id:String) (r:V ->List V ->Hp ->VK ->Prop):Prop:=
 ∀ (pins:List (Addr×Obj)) (s:Shared) (σ:St) (H:Hp) (x:V) (xs:List V) (v:Value) (us:List Value) (Q:VK),Inv X pins σ H s ->U7 x v ->J1 xs us ->r x xs H Q ->
   wpAny (model X.prog X.w) X.A (call (.builtin id) (v::us)) (EP X pins σ Q) X.xe s
section
variable{X:Cx}{a b:Expr}{ta tb:TE}{pos:Pos}
theorem D7{r:R2}(hr:IxR X r)(ha:PE X a ta)(hb:PE X b tb)(hs:G0q b):PE X (.Subscript a b pos) (tOp r ta tb):=by
 intro pins s σ H Q I h
 exact Subscript_ (G7k ha hb I h fun v u s2 x y H2 I2 rx ry q=>hr a b pins s2 σ H2 x y v u Q I2 rx ry q (hs _ _))
noncomputable def J6z (K:PySem.W.Frag):R2:=fun x y H Q=>∃p xs i v,x= .ref p/\y= .int i/\SqL K H p xs/\atI xs i=some v/\Q v H
noncomputable def J1x (K:PySem.W.Frag):R2:=fun x y H Q=>∃p xs i v,x= .ref p/\y= .int i/\SqT K H p xs/\atI xs i=some v/\Q v H
theorem A0h:IxR X (J6z X.K):=by
 intro value slice pins s σ H x y v u Q I rx ry h hs
 obtain⟨p,xs,i,z,rfl,rfl,hq,he,q⟩:=h
 cases rx
 obtain⟨t,rfl⟩:=ry
 obtain⟨its,r,pl,hz⟩:=I.list hq
 obtain⟨j,h1,h2,h3,h4,h5⟩:=C3v he
 obtain⟨w,ew,rw'⟩:=r.get h2
 have hl:=r.length
 have hn:=B8s
 have fin:EP X pins σ Q w s:=⟨z,H,I,rw',q⟩
 by_cases h0:0<=i
 . have hj:i.toNat=j:=by
     rw[seqIndex_of h0 h5] at h1
     exact Option.some.inj h1
   exact item_listR pl.isList h0 (by omega) (by rw[hj];simpa using ew) fin hs
 have hj:(i+(its.toArray.size:Int)).toNat=j:=by
   rw[seqIndex_neg (by omega) h4] at h1
   rw[List.size_toArray, <-hl]
   exact Option.some.inj h1
 exact subscriptTail_builtinR (x:=w) pl.isList.typeIs slot_list_getitem.lookup
   (wpAny_getItem_list_neg (Q:=fun r s'=>r=w/\EP X pins σ Q r s') pl.isList (by omega) (by rw[List.size_toArray]<;>omega) (by omega) (by rw[hj];simpa using ew) ⟨rfl,fin⟩) hs
theorem D8:IxR X (J1x X.K):=by
 intro value slice pins s σ H x y v u Q I rx ry h hs
 obtain⟨p,xs,i,z,rfl,rfl,hq,he,q⟩:=h
 cases rx
 obtain⟨t,rfl⟩:=ry
 obtain⟨its,r,pl,hz⟩:=I.tuple hq
 obtain⟨j,h1,h2,h3,h4,h5⟩:=C3v he
 obtain⟨w,ew,rw'⟩:=r.get h2
 have hl:=r.length
 have hn:=B8s
 have fin:EP X pins σ Q w s:=⟨z,H,I,rw',q⟩
 exact subscriptTail_builtinR (x:=w) pl.typeIs slot_tuple_getitem.lookup
   (getItem_tuple (j:=j) (Q:=fun r s'=>r=w/\EP X pins σ Q r s') pl (by omega) (by omega) (by rw[List.size_toArray, <-hl];exact h1) (by simpa using ew) ⟨rfl,fin⟩) hs
theorem B7y(lo hi:Option Int)(n:Nat):(sliceBounds lo hi none n).1=((HT.sIx n 0 lo:Nat):Int)/\(sliceBounds lo hi none n).2.1=((HT.sIx n n hi:Nat):Int)/\(sliceBounds lo hi none n).2.2=1:=by
 refine⟨?_,?_,rfl⟩
 . cases lo with
   |none=>simp[sliceBounds,HT.sIx]
   | some i=>
     simp only[sliceBounds,HT.sIx,Option.getD_none,show(1:Int)>0 by decide,if_true]
     by_cases h:i<0
     . simp only[h,if_true]<;>omega
     . simp only[h,if_false]<;>omega
 cases hi with
 |none=>simp[sliceBounds,HT.sIx]
 | some i=>
   simp only[sliceBounds,HT.sIx,Option.getD_none,show(1:Int)>0 by decide,if_true]
   by_cases h:i<0
   . simp only[h,if_true]<;>omega
   . simp only[h,if_false]<;>omega
theorem B4u(its:List Value)(lo hi:Option Int):slicePick its.toArray lo hi none=((its.drop (HT.sIx its.length 0 lo)).take (HT.sIx its.length its.length hi-HT.sIx its.length 0 lo)).toArray:=by
 obtain⟨h1,h2,h3⟩:=B7y lo hi its.toArray.size
 unfold slicePick
 rw[h1,h2,h3]
 simp only[sliceRange_one,pick_run,List.size_toArray]<;>rfl
noncomputable def J5g (K:PySem.W.Frag):V ->Option Int ->Option Int ->Hp ->VK ->Prop:=fun x lo hi H Q=>∃a xs,x= .ref a/\SqL K H a xs/\∀p,H p=none ->Q (.ref p) (upd H p (.lst (B8m xs lo hi)))
theorem G3j:SlR X (J5g X.K):=by
 intro pins s σ H x v vl vu lo hi sl Q I rx hs pl pu h
 obtain⟨a,xs,rfl,hx,q⟩:=h
 cases rx
 obtain⟨its,r,ht,hz⟩:=I.list hx
 have hlen:=r.length
 refine⟨"list",_,slot_list_getitem.lookup,ht.isList.typeIs,?_⟩
 refine wpAny_getItem_list_slice ht.isList hs pl pu .none (by simp) ?_ (by rw[List.size_toArray]<;>omega)
 rw[B4u, <-hlen]
 refine⟨.ref s.heap.objs.size,_,I.laid (t':=s.toks) (o:= .lst (B8m xs lo hi)) (fun b ob q=>Heap.get?_push_of_some _ q) (Nat.le_refl _) ?_,rfl,q _ (I.hok.fresh (Nat.le_refl _))⟩
 exact⟨Nat.le_trans (B0t xs lo hi) hz,_,0,(r.drop (HT.sIx xs.length 0 lo)).take (HT.sIx xs.length xs.length hi-HT.sIx xs.length 0 lo),Heap.get?_push_size _ rfl⟩
noncomputable def A9d:V ->Bool
 | .non=>true
 | .bl _=>true
 | .int _=>true
 | .str _=>true
 |_=>false
noncomputable def eqV:V ->V ->Bool
 | .non,.non=>true
 | .bl a,.bl b=>a==b
 | .bl a,.int b=>(if a then 1 else 0)==b
 | .int a,.bl b=>a==(if b then 1 else 0)
 | .int a,.int b=>a==b
 | .str a,.str b=>a==b
 |_,_=>false
theorem G6m{A:Around}{s:Shared}{y x:V}{u v:Value}(ry:U7 y u)(rx:U7 x v)(fy:A9d y=true)(fx:A9d x=true):SeqAt.EqAt A s u v (eqV y x):=by
 cases y with
 | non=>
   cases ry
   cases x with
   |non=>cases rx;exact SeqAt.EqAt.same _
   |bl b=>cases rx;exact SeqAt.EqAt.none_bool b
   |int b=>obtain⟨t,rfl⟩:=rx;exact SeqAt.EqAt.none_int b t
   |str b=>obtain⟨t,rfl⟩:=rx;exact SeqAt.EqAt.none_str b t
   |_=>exact absurd (show false=true from fx) Bool.false_ne_true
 | bl a=>
   cases ry
   cases x with
   |non=>cases rx;exact SeqAt.EqAt.bool_none a
   |bl b=>cases rx;exact SeqAt.EqAt.bool_bool a b
   |int b=>obtain⟨t,rfl⟩:=rx;exact SeqAt.EqAt.bool_int a b t
   |str b=>obtain⟨t,rfl⟩:=rx;exact SeqAt.EqAt.bool_str a b t
   |_=>exact absurd (show false=true from fx) Bool.false_ne_true
 | int a=>
   obtain⟨t',rfl⟩:=ry
   cases x with
   |non=>cases rx;exact SeqAt.EqAt.int_none a t'
   |bl b=>cases rx;exact SeqAt.EqAt.int_bool a t' b
   |int b=>obtain⟨t,rfl⟩:=rx;exact SeqAt.EqAt.int_int a t' b t
   |str b=>obtain⟨t,rfl⟩:=rx;exact SeqAt.EqAt.int_str a t' b t
   |_=>exact absurd (show false=true from fx) Bool.false_ne_true
 | str a=>
   obtain⟨t',rfl⟩:=ry
   cases x with
   |non=>cases rx;exact SeqAt.EqAt.str_none a t'
   |bl b=>cases rx;exact SeqAt.EqAt.str_bool a t' b
   |int b=>obtain⟨t,rfl⟩:=rx;exact SeqAt.EqAt.str_int a t' b t
   |str b=>obtain⟨t,rfl⟩:=rx;exact SeqAt.EqAt.str_str a t' b t
   |_=>exact absurd (show false=true from fx) Bool.false_ne_true
 |_=>exact absurd (show false=true from fy) Bool.false_ne_true
noncomputable def eqU (x:V) (u:Value):Bool:=match u with
 | .none=>eqV .non x
 | .bool b=>eqV (.bl b) x
 | .int i _=>eqV (.int i) x
 | .str z _=>eqV (.str z) x
 |_=>false
theorem D3u{x y:V}{u:Value}(r:U7 y u)(f:A9d y=true):eqU x u=eqV y x:=by
 cases y with
 |non=>cases r;rfl
 |bl b=>cases r;rfl
 |int i=>obtain⟨t,rfl⟩:=r;rfl
 |str z=>obtain⟨t,rfl⟩:=r;rfl
 |_=>exact absurd (show false=true from f) Bool.false_ne_true
theorem A8r{x:V}:∀{xs:List V} {us:List Value},J1 xs us ->xs.all A9d=true ->us.any (eqU x)=xs.any fun y=>eqV y x
 |_,_,.nil,_=>rfl
 | y::xs,u::us,.cons r t,f=>by
   rw[List.all_cons,Bool.and_eq_true] at f
   rw[List.any_cons,List.any_cons,D3u r f.1,A8r t f.2]
theorem A5p{A:Around}{s:Shared}{x:V}{v:Value}(rx:U7 x v)(fx:A9d x=true):∀{xs:List V} {us:List Value},J1 xs us ->xs.all A9d=true ->∀u∈us,SeqAt.EqAt A s u v (eqU x u)
 |_,_,.nil,_=>fun u hu=>by cases hu
 | y::xs,u::us,.cons r t,f=>fun u' hu=>by
   rw[List.all_cons,Bool.and_eq_true] at f
   rcases List.mem_cons.mp hu with rfl|hu
   . rw[D3u r f.1];exact G6m r rx f.1 fx
   . exact A5p rx fx t f.2 u' hu
noncomputable def inV (x:V) (xs:List V):Bool:=xs.any fun y=>eqV y x
noncomputable def rIn (K:PySem.W.Frag) (neg:Bool):R2:=fun x y H Q=>∃p xs,y= .ref p/\(SqL K H p xs\/SqT K H p xs)/\A9d x=true/\xs.all A9d=true/\Q (.bl (if neg then !inV x xs else inV x xs)) H
theorem A2j:OpR X (compareOp .In) (rIn X.K false):=by
 intro pins s σ H x y v u Q I rx ry h
 obtain⟨p,xs,rfl,hq,fx,fs,q⟩:=h
 cases ry
 rcases hq with hq|hq
 . obtain⟨its,r,pl,hz⟩:=I.list hq
   refine SeqAt.in_listAt (eqU x) pl.isList (fun w hw=>A5p rx fx r fs w (by simpa using hw)) ⟨.bl _,H,I,rfl,?_⟩
   rw[show its.toArray.any (eqU x)=its.any (eqU x) by simp,A8r r fs]
   exact q
 obtain⟨its,r,pl,hz⟩:=I.tuple hq
 refine SeqAt.in_tupleAt (eqU x) pl (fun w hw=>A5p rx fx r fs w (by simpa using hw)) ⟨.bl _,H,I,rfl,?_⟩
 rw[show its.toArray.any (eqU x)=its.any (eqU x) by simp,A8r r fs]
 exact q
theorem B8j:OpR X (compareOp .NotIn) (rIn X.K true):=by
 intro pins s σ H x y v u Q I rx ry h
 obtain⟨p,xs,rfl,hq,fx,fs,q⟩:=h
 cases ry
 rcases hq with hq|hq
 . obtain⟨its,r,pl,hz⟩:=I.list hq
   refine SeqAt.notIn_listAt (eqU x) pl.isList (fun w hw=>A5p rx fx r fs w (by simpa using hw)) ⟨.bl _,H,I,rfl,?_⟩
   rw[show its.toArray.any (eqU x)=its.any (eqU x) by simp,A8r r fs]
   exact q
 obtain⟨its,r,pl,hz⟩:=I.tuple hq
 refine SeqAt.notIn_tupleAt (eqU x) pl (fun w hw=>A5p rx fx r fs w (by simpa using hw)) ⟨.bl _,H,I,rfl,?_⟩
 rw[show its.toArray.any (eqU x)=its.any (eqU x) by simp,A8r r fs]
 exact q
theorem A9a:A3s X (.builtin "len") (fun xs H Q=>∃p ys,xs=[.ref p]/\(SqL X.K H p ys\/SqT X.K H p ys)/\Q (.int ys.length) H):=by
 intro pins s σ H xs us Q I r h
 obtain⟨p,ys,rfl,hq,q⟩:=h
 obtain⟨u,rfl,rx⟩:=B2z r
 cases rx
 have hn:=B8s
 rcases hq with hq|hq
 . obtain⟨its,r',pl,hz⟩:=I.list hq
   have hlen:=r'.length
   exact Calls.call_len_list pl.isList (by simp only[List.size_toArray]<;>omega) ⟨.int ys.length,H,I.tok _,⟨s.toks+1,by rw[List.size_toArray,hlen]⟩,q⟩
 obtain⟨its,r',pl,hz⟩:=I.tuple hq
 have hlen:=r'.length
 exact len_tuple pl (by simp only[List.size_toArray]<;>omega) ⟨.int ys.length,H,I.tok _,⟨s.toks+1,by rw[List.size_toArray,hlen]⟩,q⟩
theorem B7t:A3s X (.builtin "len") (fun xs H Q=>∃z,xs=[.str z]/\z.length<=sizeLine/\Q (.int z.length) H):=by
 intro pins s σ H xs us Q I r h
 obtain⟨z,rfl,hz,q⟩:=h
 obtain⟨u,rfl,t,rfl⟩:=B2z r
 have hn:=B8s
 exact len_str (by omega) ⟨.int z.length,H,I.tok _,⟨_,rfl⟩,q⟩
theorem A8a:A3s X (.type "list") (fun xs H Q=>∃p ys,xs=[.ref p]/\(SqL X.K H p ys\/SqT X.K H p ys)/\∀l,H l=none ->Q (.ref l) (upd H l (.lst ys))):=by
 intro pins s σ H xs us Q I r h
 obtain⟨p,ys,rfl,hq,q⟩:=h
 obtain⟨u,rfl,rx⟩:=B2z r
 cases rx
 have fin:∀(its:List Value),J1 ys its ->ys.length<=sizeLine ->∀(h':Heap) (c':Nat),(∀b o',s.heap.get? b=some o' ->h'.get? b=some o') ->
     h'.get? s.heap.objs.size=some {cls:= .type "list",dict:=none,data:= .seq its.toArray c',slots:= #[]} ->EP X pins σ Q (.ref s.heap.objs.size) {s with heap:=h'}:=fun its r' hz h' c' kp e=>
   ⟨.ref s.heap.objs.size,_,I.laid (t':=s.toks) kp (Nat.le_refl _) (show Y4 X.prog X.w _ h' _ (.lst ys) from⟨hz,its,c',r',e⟩),rfl,q _ (I.hok.fresh (Nat.le_refl _))⟩
 rcases hq with hq|hq
 . obtain⟨its,r',pl,hz⟩:=I.list hq
   have hlen:=r'.length
   obtain⟨o,ho,hc,n,hd⟩:=pl.isList
   exact call_list_seq p (.inl rfl) ho hc hd (fun h' c' kp e=>fin its r' hz h' c' kp e) (by simp only[List.size_toArray]<;>omega)
 obtain⟨its,r',pl,hz⟩:=I.tuple hq
 have hlen:=r'.length
 obtain⟨o,ho,hc,n,hd⟩:=pl
 exact call_list_seq p (.inr rfl) ho hc hd (fun h' c' kp e=>fin its r' hz h' c' kp e) (by simp only[List.size_toArray]<;>omega)
noncomputable def tyV (K:PySem.W.Frag) (T:String) (x:V) (H:Hp):Prop:=match x with
 | .str _=>T="str"
 | .int _=>T="int"
 | .ref p=>(T="list"/\∃xs,SqL K H p xs)\/(T="tuple"/\∃o,K.lookup p=some o/\o.cls= .type "tuple"/\o.dict=none)\/
     (T="dict"/\((∃kvs,H p=some (.dK kvs))\/∃kvs,H p=some (.dT kvs)))\/(T="set"/\∃S n,H p=some (.set S n))
 |_=>False
theorem D2k{pins:List (Addr×Obj)}{σ:St}{H:Hp}{s:Shared}{T:String}{x:V}{v:Value}(I:Inv X pins σ H s)(r:U7 x v)(ty:tyV X.K T x H):
   s.TypeIs v T/\∀a,v= .ref a ->∃ob,s.heap.get? a=some ob/\ob.dict=none:=by
 cases x with
 | str z=>
   obtain⟨t,rfl⟩:=r
   cases(show T="str" from ty)
   exact⟨typeIs_str s z t,fun _ e=>nomatch e⟩
 | int i=>
   obtain⟨t,rfl⟩:=r
   cases(show T="int" from ty)
   exact⟨typeIs_int s i t,fun _ e=>nomatch e⟩
 | ref p =>
   cases r
   rcases ty with⟨rfl,xs,hq⟩|⟨rfl,o,hk,hc,hd⟩|⟨rfl,hk⟩|⟨rfl,S,n,hk⟩
   . obtain⟨its,_,pl,_⟩:=I.list hq
     refine⟨pl.isList.typeIs,fun a e=>?_⟩
     cases e
     obtain⟨o,n,e,c,hd,_⟩:=pl
     exact⟨o,e,hd⟩
   . refine⟨⟨o,I.kIn p o hk,hc⟩,fun a e=>?_⟩
     cases e
     exact⟨o,I.kIn _ o hk,hd⟩
   . have z:∃o,s.heap.get? p=some o/\o.ExactDict:=by
       rcases hk with⟨kvs,hk⟩|⟨kvs,hk⟩
       . obtain⟨_,_,_,_,o,_,_,e,ex,_⟩:=I.hok p _ hk
         exact⟨o,e,ex⟩
       . obtain⟨_,_,_,_,o,_,_,e,ex,_⟩:=I.hok p _ hk
         exact⟨o,e,ex⟩
     obtain⟨o,e,ex⟩:=z
     refine⟨⟨o,e,ex.1⟩,fun a e2=>?_⟩
     cases e2
     exact⟨o,e,ex.2.1⟩
   . obtain⟨o,_,_,_,e,ex,_⟩:=I.hok p _ hk
     refine⟨⟨o,e,ex.1⟩,fun a e2=>?_⟩
     cases e2
     exact⟨o,e,ex.2.1⟩
 |_=>exact False.elim ty
noncomputable def J5t (K:PySem.W.Frag) (T:String) (r:V ->List V ->Hp ->VK ->Prop) (to:TE):TE:=fun σ H Q=>to σ H fun x H1=>tyV K T x H1/\r x [] H1 Q
noncomputable def tBM (K:PySem.W.Frag) (T:String) (r:V ->List V ->Hp ->VK ->Prop) (to:TE) (t:TA):TE:=fun σ H Q=>to σ H fun x H1=>tyV K T x H1/\t σ H1 fun xs H2=>r x xs H2 Q
variable{o e:Expr}{es:List Expr}{to:TE}{t:TA}{name:Str}{apos cpos:Pos}{T id:String}{r:V ->List V ->Hp ->VK ->Prop}
theorem B3k(pa:PlainAttrs T)(slot:Slot T name id)(hty:typeOf (.builtin id)=pure (.type "method_descriptor"))(hm:MtR X id r)(ho:PE X o to)
   (hbase:attributeBase o name X.env (eval o X.env)=eval o X.env:=by rfl) (hline:(apos.endLine==cpos.line)=true:=by rfl):PE X (.Call (.Attribute o name apos) [] [] cpos) (J5t X.K T r to):=by
 intro pins s σ H Q I h
 refine wpAny_Call_method0_late hbase hline (thn (ho pins s σ H _ I h) fun v s1 hh_=>?_)
 obtain⟨x,H1,I1,r1,ty,q1⟩:=hh_
 obtain⟨h1,h2⟩:=D2k I1 r1 ty
 exact⟨T,id,pa,slot,hty,h1,h2,Calls.callWith_builtin rfl (PySem.evalArgs_none (hm pins s1 σ H1 x [] v [] Q I1 r1 .nil q1))⟩
theorem J3g(pa:PlainAttrs T)(slot:Slot T name id)(hty:typeOf (.builtin id)=pure (.type "method_descriptor"))(hm:MtR X id r)(ho:PE X o to)(ha:PA X (e::es) t)
   (hbase:attributeBase o name X.env (eval o X.env)=eval o X.env:=by rfl)
   (hfew:((backTo cpos (starEach (e::es) X.env)).all (fun x=> !x.1)&&(backToKw cpos (keywordEach [] X.env)).all (fun x=>x.1.isSome)
     &&decide ((e::es).length+([]:List Keyword).length+(if([]:List Keyword).isEmpty then 0 else 1)<30))=true:=by rfl)
   (hline:(apos.endLine==cpos.line)=true:=by rfl) (hs:starEach (e::es) X.env=(false,eval e X.env)::starEach es X.env:=by rfl) (hplain:(backTo cpos (starEach es X.env)).any (·.1)=false:=by rfl):
   PE X (.Call (.Attribute o name apos) (e::es) [] cpos) (tBM X.K T r to t):=by
 intro pins s σ H Q I h
 refine wpAny_Call_method_late hbase hfew hline rfl (thn (ho pins s σ H _ I h) fun v s1 hh_=>?_)
 obtain⟨x,H1,I1,r1,ty,q1⟩:=hh_
 obtain⟨h1,h2⟩:=D2k I1 r1 ty
 refine⟨T,id,pa,slot,hty,h1,h2,?_⟩
 have hA:=ha cpos pins s1 σ H1 _ I1 q1
 rw[hs] at hA ⊢
 refine Calls.callWith_builtin (by show(false||(backTo cpos (starEach es X.env)).any (·.1))=false;rw[hplain]<;>rfl) (Calls.evalArgs_plain ?_)
 exact thn hA fun us s2 ⟨vs,H2,I2,r2,q2⟩=>hm pins s2 σ H2 x vs v us Q I2 r1 r2 q2
end
noncomputable def MtM (X:Cx) (id:String) (r:V ->List V ->Hp ->VK ->Prop):Prop:=
 ∀ (pins:List (Addr×Obj)) (s:Shared) (σ:St) (H:Hp) (x:V) (xs:List V) (v:Value) (us:List Value) (Q:VK),Inv X pins σ H s ->U7 x v ->J1 xs us ->r x xs H Q ->
   wpAny (model X.prog X.w) X.A (call (.builtin id) (v::us)) (EP X pins σ Q) X.xe s
theorem J1.one{x:V}{us:List Value}(h:J1 [x] us):∃u,us=[u]/\U7 x u:=by
 cases h with
 |cons r t=>cases t;exact⟨_,rfl,r⟩
theorem J1.two{x y:V}{us:List Value}(h:J1 [x,y] us):∃u v,us=[u,v]/\U7 x u/\U7 y v:=by
 cases h with
 | cons r t=>
   obtain⟨v,e,q⟩:=J1.one t
   exact⟨_,v,by rw[e],r,q⟩
theorem J1.zero:∀{us:List Value},J1 [] us ->us=[]
 |_,.nil=>rfl
theorem J1.reverse{xs:List V}{us:List Value}(h:J1 xs us):J1 xs.reverse us.reverse:=by
 induction h with
 |nil=>exact .nil
 |cons r t ih=>rw[List.reverse_cons,List.reverse_cons];exact J1.append ih (.cons r .nil)
theorem J1.rep{xs:List V}{us:List Value}(h:J1 xs us):∀k:Nat,J1 (List.replicate k xs).flatten (List.replicate k us).flatten
 |0=> .nil
 | k+1=>by
   rw[List.replicate_succ,List.replicate_succ,List.flatten_cons,List.flatten_cons]
   exact J1.append h (J1.rep h k)
theorem B5u(its:List Value):∀(k:Nat) (acc:List Value),
   List.foldl (fun x1 x2=>x1++x2) acc.toArray (List.replicate k its.toArray)=(acc++(List.replicate k its).flatten).toArray
 |0,acc=>by simp
 | k +1,acc=>by
   have e:acc.toArray++its.toArray=(acc++its).toArray:=by simp
   have e2:(acc++its)++(List.replicate k its).flatten=acc++(List.replicate (k+1) its).flatten:=by
     rw[List.replicate_succ,List.flatten_cons,List.append_assoc]
   rw[<-e2, <-B5u its k (acc++its), <-e,List.replicate_succ,List.foldl_cons]
section
variable{X:Cx}{pins:List (Addr×Obj)}{σ:St}{H:Hp}{s:Shared}{l b:Addr}{xs ys zs:List V}
theorem Inv.lset{its its':List Value}{n:Nat}{f:Array Value ->Array Value}{t':Nat}(I:Inv X pins σ H s)(hH:H l=some (.lst xs))
   (e:s.heap.get? l=some {cls:= .type "list",data:= .seq its.toArray n}) (hf:f its.toArray=its'.toArray) (hv:J1 ys its') (hz:ys.length<=sizeLine):
   Inv X pins σ (upd H l (.lst ys)) {s with heap:=s.heap.update l (Obj.mapSeq f),toks:=t'}:=by
 have q:=PySem.IsL.update e f
 rw[hf] at q
 refine I.write (x:=l) (e:=l) (by rw[hH];exact trivial) (.inl rfl) (fun b' u hb hu=>(Heap.get?_update_other s.heap (Obj.mapSeq f) (Ne.symm hb)).trans hu) ⟨_,q⟩ ?_
 exact⟨hz,its',_,hv,q⟩
theorem Inv.lnew{its:List Value}{t':Nat}(I:Inv X pins σ H s)(hv:J1 ys its)(hz:ys.length<=sizeLine):
   Inv X pins σ (upd H s.heap.objs.size (.lst ys)) {s with heap:=s.heap.push {cls:= .type "list",data:= .seq its.toArray},toks:=t'}:=
 I.laid (fun _ _ q=>Heap.get?_push_of_some _ q) (Nat.le_refl _) ⟨hz,its,0,hv,Heap.get?_push_size _ rfl⟩
theorem Inv.fresh(I:Inv X pins σ H s):H s.heap.objs.size=none:=I.hok.fresh (Nat.le_refl _)
theorem Inv.lstM(I:Inv X pins σ H s)(hH:H l=some (.lst xs)):xs.length<=sizeLine/\∃(its:List Value) (n:Nat),J1 xs its/\xs.length=its.length/\s.heap.get? l=some {cls:= .type "list",data:= .seq its.toArray n}:=by
 obtain⟨z,its,n,r,e⟩:=I.hok l _ hH
 exact⟨z,its,n,r,r.length,e⟩
theorem D4a{n:Nat}(h:n<=sizeLine):Builtin.List.listTooLong n=false:=by
 unfold Builtin.List.listTooLong
 exact decide_eq_false (by omega)
end
section
variable{X:Cx}
noncomputable def G0g:V ->List V ->Hp ->VK ->Prop:=fun x vs H Q=>∃l xs y,x= .ref l/\vs=[y]/\H l=some (.lst xs)/\xs.length<sizeLine/\Q .non (upd H l (.lst (xs++ [y])))
theorem A9j:MtM X "list.append" G0g:=by
 intro pins s σ H x vs v us Q I rx rv h
 obtain⟨l,xs,y,rfl,rfl,hH,hz,q⟩:=h
 cases rx
 obtain⟨u,rfl,ru⟩:=rv.one
 obtain⟨z,its,n,r,hl,e⟩:=I.lstM hH
 refine call_meets F.slot_list_append ⟨_,e,rfl⟩ F.entry_list_append (F.args_list_append_2 _ _) (PySem.list_append l its.toArray n u (by rw[List.size_toArray];omega)) ⟨e,?_⟩
 refine⟨.non,_,I.lset (its':=its++ [u]) hH e (by simp) (r.append (.cons ru .nil)) ?_,rfl,q⟩
 rw[List.length_append,List.length_singleton]
 omega
noncomputable def G7h:V ->List V ->Hp ->VK ->Prop:=fun x vs H Q=>∃l xs,x= .ref l/\vs=[]/\H l=some (.lst xs)/\Q .non (upd H l (.lst []))
theorem B4f:MtM X "list.clear" G7h:=by
 intro pins s σ H x vs v us Q I rx rv h
 obtain⟨l,xs,rfl,rfl,hH,q⟩:=h
 cases rx
 have hus:=rv.zero
 subst hus
 obtain⟨z,its,n,r,hl,e⟩:=I.lstM hH
 refine call_meets F.slot_list_clear ⟨_,e,rfl⟩ F.entry_list_clear (F.args_list_clear_1 _) (AutoSeq1.list_clear_list_0 l its.toArray n (by rw[List.size_toArray];omega)) ⟨e,?_⟩
 exact⟨.non,_,I.lset (its':=[]) (ys:=[]) hH e rfl .nil (Nat.zero_le _),rfl,q⟩
noncomputable def J7e:R2:=fun x y H Q=>∃l b xs zs,x= .ref l/\y= .ref b/\H l=some (.lst xs)/\H b=some (.lst zs)/\xs.length+zs.length<=sizeLine/\∀p,H p=none ->Q (.ref p) (upd H p (.lst (xs++zs)))
theorem B2t:OpR X (binaryOp .Add) J7e:=by
 intro pins s σ H x y v u Q I rx ry h
 obtain⟨l,b,xs,zs,rfl,rfl,hH,hB,hz,q⟩:=h
 cases rx
 cases ry
 obtain⟨z,its,n,r,hl,e⟩:=I.lstM hH
 obtain⟨z2,its2,n2,r2,hl2,e2⟩:=I.lstM hB
 refine PySem.P.add_list e e2 ?_ (by rw[List.size_toArray,List.size_toArray];omega)
 have ea:its.toArray++its2.toArray=(its++its2).toArray:=by simp
 rw[ea]
 exact⟨.ref _,_,I.lnew (t':=s.toks) (r.append r2) (by rw[List.length_append];omega),rfl,q _ I.fresh⟩
noncomputable def J6e:R2:=fun x y H Q=>∃l k xs,x= .ref l/\y= .int k/\H l=some (.lst xs)/\ -(2^63)<=k/\k<2^63/\xs.length*k.toNat<=sizeLine/\
 ∀p,H p=none ->Q (.ref p) (upd H p (.lst (List.replicate k.toNat xs).flatten))
theorem G3v{α:Type}(xs:List α)(k:Nat):(List.replicate k xs).flatten.length=k*xs.length:=by
 induction k with
 |zero=>simp
 |succ k ih=>rw[List.replicate_succ,List.flatten_cons,List.length_append,ih,Nat.succ_mul,Nat.add_comm]
theorem D2p:OpR X (binaryOp .Mult) J6e:=by
 intro pins s σ H x y v u Q I rx ry h
 obtain⟨l,k,xs,rfl,rfl,hH,h1,h2,hz,q⟩:=h
 cases rx
 obtain⟨t,rfl⟩:=ry
 obtain⟨z,its,n,r,hl,e⟩:=I.lstM hH
 have hlen:its.toArray.size*k.toNat<=sizeLine:=by rw[List.size_toArray, <-hl];exact hz
 have hcap:¬its.toArray.size*k.toNat>(2^63-1)/8:=by
   have:(sizeLine:Nat)<=(2^63-1)/8:=by decide
   omega
 have hfit:¬(!Builtin.List.listFitsIndex k)=true:=by
   rw[fitsIndex_both h1 h2]
   exact Bool.false_ne_true
 have hlong:¬Builtin.List.listTooLong (its.toArray.size*k.toNat)=true:=by
   rw[D4a hlen]
   exact Bool.false_ne_true
 have hnew:List.foldl (fun x1 x2=>x1++x2) #[] (List.replicate (if its.toArray.isEmpty=true then 0 else k.toNat) its.toArray)=(List.replicate k.toNat its).flatten.toArray:=by
   have f0:∀m:Nat,List.foldl (fun x1 x2=>x1++x2) #[] (List.replicate m its.toArray)=(List.replicate m its).flatten.toArray:=fun m=>by
     have:=B5u its m []
     rw[List.nil_append] at this
     exact this
   rw[f0]
   cases its with
   |nil=>simp
   |cons a r'=>rw[if_neg (by simp)]
 refine wpAny_binaryOp_repeat_ref (T:="list") (U:="int") (by decide) ⟨_,e,rfl⟩ (fun s'=>typeIs_int s' k t) noFill_list_mul F.fills_int_mul F.slot_int_rmul repeat_list F.slot_int_index.lookup
   (call_meets F.slot_int_rmul (typeIs_int s k t) F.entry_int_rmul (F.args_int_rmul_2 _ _) (int___rmul___int_list k t l its.toArray n)
     ⟨e,rfl,⟨_,e,rfl⟩,call_meets F.slot_list_mul ⟨_,e,rfl⟩ F.entry_list_mul (F.args_list_mul_2 _ _) (AutoListH.list___mul___list_int_3 l its.toArray n k t hfit hcap hlong) ⟨e,?_⟩⟩)
 rw[hnew]
 exact⟨.ref _,_,I.lnew (t':=s.toks) (r.rep k.toNat) (by rw[G3v,Nat.mul_comm];exact hz),rfl,q _ I.fresh⟩
end
section
variable{prog:Program}{w:World}{A:Around}{E:Value ->Shared ->Prop}{s:Shared}
end
section
variable{X:Cx}
end
end L2
namespace Att
open PySem PySem.W PySem.Calls PyProof.Rows
theorem B1e{P:Params}{h:Heap}:∀(ns:List Int) (vs:List Value),WellAll P h vs (ns.map WData.int) ->IntsAre vs ns:=by
 intro ns
 induction ns with
 | nil=>
   intro vs w
   rw[List.map_nil] at w
   cases w
   exact .nil
 | cons n ns ih=>
   intro vs w
   rw[List.map_cons] at w
   cases w with
   | cons a b=>
     cases a
     exact .cons _ _ (ih _ b)
theorem C7v{l:OpenLaw}{n:Nat}(hn:l.most=some n){P:Params}{h:Heap}{args:List WData}{vals:List Value}
   (hpre:l.row.toRowW.claim.pre args=true) (hwl:WellAll P h vals args):
   ∃a vs ns,vals=[Value.ref a]/\args=[WData.list (ns.map WData.int)]/\h.get? a=some {cls:= .type "list",data:= .seq vs.toArray}/\IntsAre vs ns/\ns.length<=n:=by
 have hsh:WShape.hasAll [] args [.list .int]=true:=(pre_splitW hpre).1
 have hc:l.pre.holds [] {args:=args}=true:=(pre_splitW hpre).2
 obtain⟨d,r,rfl,h1,h2⟩:=hasAllW_cons hsh
 obtain rfl:=hasAllW_nil h2
 obtain⟨xs,rfl,h3⟩:=hasW_list h1
 obtain⟨ns,rfl⟩:=items_int h3
 have hlen:ns.length<=n:=by
   unfold OpenLaw.pre at hc
   have h4:(WTm.not (.lt (.lit (.int (n:Int))) (.len (.arg 0)))).holds [] {args:=[.list (ns.map .int)]}=true:=by
     have h4:=(holds_andW hc).1
     rw[hn] at h4
     exact h4
   have h5:=condW_of h4 (w_not (w_lt w_lit (w_len_list (w_arg rfl))))
   rw[List.length_map] at h5
   refine Nat.le_of_not_lt fun q=>?_
   have q':(n:Int)<((ns.length:Nat):Int):=by omega
   first
     |(rw[decide_eq_true q'] at h5;exact absurd h5 (by decide))
     |(simp at h5;omega)
 cases hwl with
 | cons w1 w2=>
   cases w2
   cases w1 with
   |list ho hall=>exact⟨_,_,ns,rfl,rfl,ho,B1e ns _ hall,hlen⟩
theorem C6u(l:OpenLaw)(args:List WData):l.row.toRowW.claim.post args (.bool true) args=true:=
 postW_of (r:=l.row.toRowW) (X:=(true==true))
   (show WShape.has [] (.bool true) .bool=true by first|rfl|decide|simp[WShape.has,WShape.arms,WShape.armsAll])
   (show(WTm.eq .res (.lit (.bool true))).value [] {args:=args,res:=some (.bool true),after:=args}=some (.bool (true==true)) from w_eq_bool (w_res rfl) w_lit) rfl
theorem attach_call{l:OpenLaw}{n:Nat}{q:Program}{loose:List Str}{XP:(Str ->Option Value) ->Heap ->Prop}{YP:World ->Heap ->Prop}{d:DefRec}
   (hn:l.most=some n) (hdf:d.params.defaults=[])
   (call:∀(w:World) (s₀ s₁:Shared) (mg mb:Str ->Option Value) (fa:Addr) (o:Obj) (pm cd doc:Value) (a:Addr) (vs:List Value) (ns:List Int),
     Ground q loose [] XP w s₀ mg mb s₁.heap ->YP w s₁.heap ->
     s₁.heap.get? fa=some o ->o.data= .func (docDef d.name d.params d.body d.scope pm cd doc) ->s₁.heap.CodeRec cd d.name ->mg d.name=some (.ref fa) ->
     s₁.heap.get? a=some {cls:= .type "list",data:= .seq vs.toArray} ->IntsAre vs ns ->ns.length<=n ->s₁.gens= #[] ->
     codeAny (model l.prog w) callerA (.call (.ref fa) ⟨[.ref a],[]⟩) (fun r s'=>r= .ok (.ret (.bool true))/\OldK s₁.heap s'.heap/\s'.os=s₁.os/\AllBare s'.gens) s₁):
   WalkO q loose XP YP l.row.toRowW d [] (fun f vs=>PySem.call f vs):=by
 intro w s₀ s₁ mg mb G Y fa o pm cd doc dV kV ho hd hcd hD hmg hg args vals as hpre hlay hrd hwl hlo
 obtain rfl:dV= .none:=Dflts.none hD hdf
 obtain rfl:kV= .none:=Dflts.noKw hD
 obtain⟨a,vs,ns,rfl,rfl,hobj,hints,hlen⟩:=C7v hn hpre hwl
 refine enter_call (codeAny_mono (call w s₀ s₁ mg mb fa o pm cd doc a vs ns G Y ho (fd_plain hd) hcd hmg hobj hints hlen hg) fun r s' hq=>?_)
 obtain⟨rfl,h2,h3,h4⟩:=hq
 exact⟨.inl ⟨.bool true,.bool true,[],rfl,fun _=>rfl,.bool true,C6u l _,fun _=>⟨List.Pairwise.nil,fun _ hm=>(nomatch hm)⟩⟩,h2,h3,h4⟩
section
variable{prog:Program}{w:World}{A:Around}{E:Value ->Shared ->Prop}{s:Shared}{K:Frag}
end
end Att
namespace L2
open PySem PySem.Spec PyProof.Rows
theorem B5g:∀{vs:List Value} {ns:List Int},IntsAre vs ns ->J1 (ns.map V.int) vs
 |_,_,.nil=> .nil
 |_,_,.cons n t h=> .cons ⟨t,rfl⟩ (B5g h)
noncomputable def G7a (H:Hp):Prop:=∀b,H b=none\/∃o xs,H b=some (.frz o (.lst xs))
theorem C9r{P:Program}{w:World}{K:PySem.W.Frag}{mg mb:Str ->Option Value}{CX:CXT}{k:Nat}{fa a:Addr}{fd:FuncData}{x:Str}{sp:Sp}{s₁:Shared}{vs:List Value}{ns:List Int}
   (KX:K.In s₁.heap) (hns:s₁.heap.Ns mainGlobals mg) (hb:s₁.heap.Ns builtinsNs mb) (hbb:∀x:Str,x≠"__name__" ->mb x=bootBuiltins x) (hlim:s₁.heap.NoLimit) (hg:s₁.gens= #[])
   (ha:s₁.heap.get? a=some {cls:= .type "list",data:= .seq vs.toArray}) (hi:IntsAre vs ns) (hl:ns.length<=sizeLine) (hr:A0j k callerA)
   (F:∀base:Heap,K.In base ->base.Ns mainGlobals mg ->A8 P w K mg base CX k fa fd [x] sp) (hbind:∀(s:Shared) (u:Value),BindsTo s fd ⟨[u],[]⟩ [(x,u)])
   (hsp:∀H:Hp,G7a H ->SqL K H a (ns.map V.int) ->sp [.ref a] H (fun v _=>v= .bl true) fun _ _ _=>False)
   (hCX:∀H e s',CX [] H s₁ (fun _ _ _=>False) e s' ->False):
   codeAny (model P w) callerA (.call (.ref fa) ⟨[.ref a],[]⟩) (fun r s'=>r= .ok (.ret (.bool true))/\OldK s₁.heap s'.heap/\s'.os=s₁.os/\AllBare s'.gens) s₁:=by
 have rv:=B5g hi
 have lenV:=hi.length
 have core :∀H:Hp,G7a H ->SqL K H a (ns.map V.int) ->HOk P w H s₁.heap ->(∀b,H b≠none ->b=a) ->(H a≠none ->K.lookup a=none) ->
     codeAny (model P w) callerA (.call (.ref fa) ⟨[.ref a],[]⟩) (fun r s'=>r= .ok (.ret (.bool true))/\OldK s₁.heap s'.heap/\s'.os=s₁.os/\AllBare s'.gens) s₁:=by
   intro H hO hS hok hA hK
   have base_of:∀{b:Addr} {o:Obj},s₁.heap.get? b=some o ->H b=none ->(B7a s₁.heap H).get? b=some o:=fun e n=>D3t e n
   have noA:∀{b:Addr} {o:Obj} {es:Array DictEntry} {ep:Nat},s₁.heap.get? b=some o ->o.data= .dict es ep ->H b=none:=fun{b o es ep} e d=>by
     cases q:H b with
     |none=>rfl
     | some u=>
       have e':b=a:=hA b (by rw[q];simp)
       subst e'
       rw[ha] at e;cases e
       have d':Data.seq vs.toArray _=Data.dict es ep:=d
       cases d'
   have nsK:∀{b:Addr} {m:Str ->Option Value},s₁.heap.Ns b m ->(B7a s₁.heap H).Ns b m:=fun{b m} ⟨o,es,ep,e,d,r⟩=>⟨o,es,ep,base_of e (noA e d),d,r⟩
   have hKb:K.In (B7a s₁.heap H):=fun b o e=>base_of (KX b o e) (by
     cases q:H b with
     |none=>rfl
     | some u=>
       have e':b=a:=hA b (by rw[q];simp)
       subst e'
       rw[hK (by rw[q];simp)] at e;cases e)
   have hM:Mod K mg (B7a s₁.heap H):=⟨hKb,nsK hns,⟨mb,nsK hb,hbb⟩,let⟨mc,h1,h2⟩:=hlim;⟨mc,nsK h1,h2⟩⟩
   have e0:C3j P w K mg (B7a s₁.heap H) callerA [] s₁ H:=⟨rfl,hM,fun b o e=>G3b e,Nat.le_of_eq (C9g _ _),trivial,fun b hb=>absurd (show b∈([]:List Addr) from hb) (by simp),hok,.of_eq hg⟩
   refine codeAny_mono ((F _ hKb (nsK hns)).run callerA [] s₁ H ⟨[.ref a],[]⟩ [.ref a] [.ref a] _ _ hr e0 (hbind s₁ (.ref a)) (.cons rfl .nil) (hsp H hO hS)) fun r s' h=>?_
   cases r with
   |error e=>exact(hCX H e s' h).elim
   | ok fl =>
     cases fl with
     |next=>exact False.elim h
     |brk=>exact False.elim h
     |cont=>exact False.elim h
     | ret u=>
       obtain⟨v,H',os,bare,un,hok',r',q⟩:=h
       have q':v= .bl true:=q
       subst q'
       obtain rfl:u=Value.bool true:=r'
       refine⟨rfl,OldK.of_keep fun b o e=>?_,os,bare⟩
       cases q:H b with
       |none=>exact un.keep b o e q (by intro z;exact absurd (show b∈([]:List Addr) from z) (by simp)) (by simp)
       | some u=>
         rcases hO b with z|⟨ob,xs,z⟩
         . rw[q] at z;cases z
         . have z2:=un.frzs b ob _ z
           obtain⟨e1,_⟩:=hok b _ z
           obtain⟨e2,_⟩:=hok' b _ z2
           rw[e] at e1;cases e1
           exact e2
 cases hk:K.lookup a with
 | some o=>
   have e:=KX a o hk
   rw[ha] at e
   cases e
   refine core (fun _=>none) (fun _=> .inl rfl) (.inr ⟨_,vs.toArray,_,hk,rfl,rfl,rfl,by rw[List.size_toArray,lenV];exact hl,by simpa using rv⟩) (fun b u z=>by have z':(none:Option HO)=some u:=z;cases z') (fun b z=>absurd rfl z) fun z=>absurd rfl z
 | none=>
   refine core (fun b=>if b=a then some (.frz {cls:= .type "list",data:= .seq vs.toArray} (.lst (ns.map V.int))) else none) (fun b=>?_) (.inl (.inr ⟨{cls:= .type "list",data:= .seq vs.toArray},if_pos rfl⟩)) (fun b u z=>?_) (fun b z=>?_) fun _=>hk
   . by_cases hb:b=a
     . exact .inr ⟨_,_,if_pos hb⟩
     . exact .inl (if_neg hb)
   . by_cases hb:b=a
     . have z':=(if_pos hb).symm.trans z
       cases z'
       subst hb
       exact⟨ha,by rw[List.length_map];exact hl,vs,_,rv,ha⟩
     . have z':=(if_neg hb).symm.trans z
       cases z'
   . by_cases hb:b=a
     . exact hb
     . exact absurd (if_neg hb) z
theorem walk_of{l:PySem.W.OpenLaw}{n k:Nat}{q:Program}{loose:List Str}{XP:(Str ->Option Value) ->Heap ->Prop}{YP:World ->Heap ->Prop}{d:DefRec}{K:Params ->PySem.W.Frag}{CX:World ->CXT}{sp:World ->Sp}{x:Str}
   (hn:l.most=some n) (hn2:n<=sizeLine) (hdf:d.params.defaults=[]) (hr:A0j k callerA)
   (hY:∀(w:World) (h:Heap),YP w h ->(K w.params).In h)
   (F:∀(w:World) (mg:Str ->Option Value) (fa:Addr) (h:Heap),(K w.params).In h ->h.Ns mainGlobals mg ->mg d.name=some (.ref fa) ->
     ∃ fd:FuncData,(∀(s:Shared) (u:Value),BindsTo s fd ⟨[u],[]⟩ [(x,u)])/\
       ∀base:Heap,(K w.params).In base ->base.Ns mainGlobals mg ->A8 l.prog w (K w.params) mg base (CX w) k fa fd [x] (sp w))
   (hsp:∀(w:World) (H:Hp) (a:Addr) (ns:List Int),ns.length<=n ->G7a H ->SqL (K w.params) H a (ns.map V.int) ->sp w [.ref a] H (fun v _=>v= .bl true) fun _ _ _=>False)
   (hCX:∀(w:World) (H:Hp) (s:Shared) (e:Value) (s':Shared),CX w [] H s (fun _ _ _=>False) e s' ->False):
   PySem.W.WalkO q loose XP YP l.row.toRowW d [] (fun f vs=>PySem.call f vs):=by
 refine Att.attach_call hn hdf fun w s₀ s₁ mg mb fa o pm cd doc a vs ns G Y ho hd hcd hmg hobj hints hlen hg=>?_
 have KX:=hY w _ Y
 obtain⟨fd,hb,hF⟩:=F w mg fa _ KX G.T.g hmg
 exact C9r KX G.T.g G.T.b G.T.builtins G.T.nolimit hg hobj hints (Nat.le_trans hlen hn2) hr hF hb (fun H hO hS=>hsp w H a ns hlen hO hS) fun H e s'=>hCX w H s₁ e s'
noncomputable def G6 (s:Stmt) (j:Nat):Stmt:=match s with
 | .ClassDef _ _ _ body _ _ _ _ _ _ _=>body.getD j (.Pass ⟨0,0,0,0⟩)
 |_=> .Pass ⟨0,0,0,0⟩
noncomputable def J9 (s:Stmt):Arguments:=match s with
 | .FunctionDef _ a _ _ _ _ _ _ _ _=>a
 |_=>{posonlyargs:=[],args:=[],vararg:=none,kwonlyargs:=[],kw_defaults:=[],kwarg:=none,defaults:=[]}
noncomputable def J0 (s:Stmt):List Stmt:=match s with
 | .FunctionDef _ _ b _ _ _ _ _ _ _=>b
 |_=>[]
noncomputable def A7 (s:Stmt):Scope:=match s with
 | .FunctionDef _ _ _ _ _ _ sc _ _ _=>sc
 |_=>{kind:= .function,names:=[],isGenerator:=false,isCoroutine:=false}
noncomputable abbrev CX0:CXT:=fun _ _ _ _ _ _=>False
noncomputable abbrev E0:XK:=fun _ _ _=>False
theorem D1v{X:Cx}:C1u CX0 X E0:=fun _ _ _ _ _ _ _ h=>h.elim
structure Fun(K:PySem.W.Frag)(x qual:Str)(st:Stmt)(f:Addr)(fd:FuncData):Prop where
 ex:∃(oc:Value) (od:Option Addr) (kV doc pm:Value) (an:Option Addr) (cdv ct:Value) (osl:Array (Option Value)),
   fd=PySem.W.fnOf x qual (J9 st) (J0 st) (A7 st) .none kV doc pm an cdv ct/\K.lookup f=some ⟨oc,od,.func fd,osl⟩/\PySem.W.codeIn K cdv qual=true
 kp:PySem.W.keepIn K (.ref f)=true
section
variable{P:Program}{w:World}{K:PySem.W.Frag}{mg:Str ->Option Value}{base:Heap}
theorem Fun.ok{x qual:Str}{st:Stmt}{f:Addr}{fd:FuncData}{N ps:List Str}{k:Nat}{sp:Sp}(F:Fun K x qual st f fd)(S:B7 N ps (A7 st))(len:∀vs H Q E,sp vs H Q E ->vs.length=ps.length)
   (hbody:∀(cdv:Value) (A:Around) (outer:List Env) (s:Shared) (H:Hp) (vs:List V) (Q:VK) (E:XK),A0j k (A.deeper (envOfC qual (A7 st) s.heap.objs.size f cdv)) ->sp vs H Q E ->
     ∃t,PSs (A1j CX0 P w K mg base N qual (A7 st) f cdv A outer s H E).nox (J0 st) t/\t {nx:=fun _ H'=>Q .non H',rt:=Q} (A6p N vs) H):A8 P w K mg base CX0 (k+1) f fd ps sp:=by
 obtain⟨oc,od,kV,doc,pm,an,cdv,ct,osl,rfl,lk,hcd⟩:=F.ex
 refine D3c lk hcd S len fun A outer s H vs Q E hr hsp=>?_
 obtain⟨t,h,q⟩:=hbody cdv A outer s H vs Q E hr hsp
 exact⟨t,h.nox,q⟩
theorem Fun.binds{x qual:Str}{st:Stmt}{f:Addr}{fd:FuncData}{ps:List Str}(F:Fun K x qual st f fd)
   (h:∀(kV doc pm:Value) (an:Option Addr) (cdv ct:Value) (us:List Value),us.length=ps.length ->bindArgs (PySem.W.fnOf x qual (J9 st) (J0 st) (A7 st) .none kV doc pm an cdv ct) ⟨us,[]⟩=pure (ps.zip us)):Binds K fd ps []:=by
 obtain⟨oc,od,kV,doc,pm,an,cdv,ct,osl,rfl,lk,hcd⟩:=F.ex
 exact .all (h kV doc pm an cdv ct)
theorem A3g{x qual:Str}{st:Stmt}{f:Addr}{oc:Value}{od an:Option Addr}{osl:Array (Option Value)}{kV doc pm cdv ct:Value}(l:K.lookup f=some ⟨oc,od,.func (PySem.W.fnOf x qual (J9 st) (J0 st) (A7 st) .none kV doc pm an cdv ct),osl⟩)
   (c:PySem.W.codeIn K cdv qual=true) (k:PySem.W.keepIn K (.ref f)=true):Fun K x qual st f (PySem.W.fnOf x qual (J9 st) (J0 st) (A7 st) .none kV doc pm an cdv ct):=⟨⟨oc,od,kV,doc,pm,an,cdv,ct,osl,rfl,l,c⟩,k⟩
end
theorem Y8{n:Nat}(h:n<=1000):n<sizeLine:=Nat.lt_of_le_of_lt h (by decide)
section
variable{X:Cx}
theorem pv(i:Nat){x:Str}{pos:Pos}(hN:X.N[i]?=some x:=by rfl)(hv:Vis X.env.scope x:=by first|exact Or.inl rfl|exact Or.inr (Or.inl rfl)|exact Or.inr (Or.inr rfl))(hd:(x==("__debug__":Str))=false:=by decide)
   (hcd:(x==("__classdict__":Str))=false:=by decide):PE X (.Name x pos) (J0m i):=G7j hN hv hd hcd
end
theorem U6{A B:Prop}(h:B):if false=true then A else B:=by
 rw[if_neg Bool.false_ne_true]
 exact h
theorem Y3{A B:Prop}(h:A):if true=true then A else B:=by
 rw[if_pos rfl]
 exact h
theorem B0z{c A B:Prop} [Decidable c] (hc:c) (h:B):if(!decide c)=true then A else B:=by
 rw[decide_eq_true hc]
 exact U6 h
noncomputable def B5 (H H':Hp):Prop:=∀b o,H b=some o ->H' b=some o
theorem B5.refl(H:Hp):B5 H H:=fun _ _ h=>h
theorem B5.trans{H H1 H2:Hp}(a:B5 H H1)(b:B5 H1 H2):B5 H H2:=fun c o h=>b c o (a c o h)
theorem B5.free{H H':Hp}(e:B5 H H'){l:Addr}(h:H' l=Option.none):H l=Option.none:=by
 cases q:H l with
 |none=>rfl
 | some o=>
   rw[e l o q] at h
   cases h
theorem B5.seq{K:PySem.W.Frag}{H H':Hp}{a:Addr}{xs:List V}(e:B5 H H')(h:SqL K H a xs):SqL K H' a xs:=by
 rcases h with(h|⟨o,h⟩)|h
 . exact .inl (.inl (e _ _ h))
 . exact .inl (.inr ⟨o,e _ _ h⟩)
 exact .inr h
end L2
set_option maxHeartbeats 4000000
namespace L2
open PySem PySem.Spec PyProof.Rows
noncomputable abbrev Z0 (C:Value) (t:Addr) (dd:Option Addr) (tb:Value):Obj:=
 {cls:=C,dict:=dd,data:= .fields #[.ref t,tb,.none,.none,.bool false,.none]}
structure J3u(fs:List Addr)(h h':Heap)(a:Addr)(C:Value)(t:Addr)(dd:Option Addr)(T:Addr)(fl:Value):Prop where
 keep:∀b o,b ∉ fs ->b≠a ->h.get? b=some o ->h'.get? b=some o
 slot:∀b o,b≠a ->h.get? b=some o ->∃sl,h'.get? b=some {o with slots:=sl}
 new:h.get? T=none
 ne:T≠a
 exc:h'.get? a=some (Z0 C t dd (.ref T))
 tbk:∃oT ts,h'.get? T=some oT/\oT.data= .fields ts/\ts[3]?=some fl
section
variable{M:Model}{A:Around}{E:Value ->Shared ->Prop}{s:Shared}{base:Heap}{env:Env}{outer:List Env}{L a t:Addr}{C:Value}{dd:Option Addr}{tb:Value}{Q:Unit ->Shared ->Prop}
theorem G2e{oa:Obj}{vs:Array Value}{l:List Env}(hl:s.heap.FunFrames base l)(ha:s.heap.get? a=some oa)(hd:oa.data= .fields vs):a ∉ l.filterMap (·.frame):=by
 intro hm
 obtain⟨_,o,ho,hn⟩:=hl.mem hm
 rw[ha] at ho
 cases ho
 exact hn vs hd
theorem C5c{head:Value}{hn:Bool}(hfr:A.frames=some (env::outer))(hl:s.heap.FunFrames base (env::outer))(hf:env.frame=some L)
   (ha:s.heap.get? a=some (Z0 C t dd tb))
   (h:∀h' T,J3u ((env::outer).filterMap (·.frame)) s.heap h' a C t dd T (rawInt L) ->Q () {s with heap:=h'}):
   wpAny M A (do
     let x<-frameOf env
     let pl<-entryPlaceOf L hn
     let b<-EntryCells.newEntry head x .none (rawInt L) .none pl
     setField (.ref a) 1 b) Q E s:=by
 have na:=G2e hl ha rfl
 refine wpAny_bind (wpAny_frameOf_fun hfr hl hf fun g hg=>?_)
 refine wpAny_bind (wpAny_entryPlaceOf fun pl hpl=>?_)
 unfold EntryCells.newEntry newFields
 refine wpAny_bind (wpAny_newObj_type ?_ (hpl.sizeOk5 _ _ _ _ _))
 have a1:g.get? a=some (Z0 C t dd tb):=(hg.2.1 a na).trans ha
 have a2:=fun(z:Obj)=>Heap.get?_push_of_some (h:=g) z a1
 have nT:g.objs.size≠a:=Nat.ne_of_gt (Heap.lt_size a1)
 refine wpAny_setField (a2 _) rfl (by show 1<6;decide) (h _ g.objs.size ?_)
 have up:∀(z:Obj) (f:Obj ->Obj) b o,b≠a ->g.get? b=some o ->((g.push z).update a f).get? b=some o:=by
   intro z f b o hb e
   rw[Heap.get?_update_other _ _ (Ne.symm hb)]
   exact Heap.get?_push_of_some _ e
 refine⟨fun b o hb hba e=>up _ _ b o hba ((hg.2.1 b hb).trans e),fun b o hba e=>?_,?_,nT,?_,?_⟩
 . obtain⟨sl,e1⟩:=hg.2.2 b o e
   exact⟨sl,up _ _ b _ hba e1⟩
 . refine Heap.get?_none_of_le ?_
   rw[hg.1]
   exact Nat.le_refl _
 . exact Heap.get?_update_self _ (a2 _) rfl
 refine⟨_,_,(Heap.get?_update_other _ _ (Ne.symm nT)).trans (Heap.get?_push_size _ rfl),rfl,?_⟩
 first
   |(simp;done)
   |(rcases hpl with rfl|⟨_,_,_,_,_,_,_,rfl⟩<;>simp)
noncomputable def G7f (h:Heap) (a:Addr) (tb:Value):Prop:=tb= .none\/∃T oT ts,tb= .ref T/\T≠a/\h.get? T=some oT/\oT.data= .fields ts/\ts[3]?=some .none
theorem G7v(hfr:A.frames=some (env::outer))(hl:s.heap.FunFrames base (env::outer))(hf:env.frame=some L)
   (ha:s.heap.get? a=some (Z0 C t dd tb)) (ht:G7f s.heap a tb)
   (h:∀h' T,(∀b o,b ∉ (env::outer).filterMap (·.frame) ->b≠a ->tb≠ .ref b ->s.heap.get? b=some o ->h'.get? b=some o) ->
     (∀b o,b≠a ->tb≠ .ref b ->s.heap.get? b=some o ->∃sl,h'.get? b=some {o with slots:=sl}) ->s.heap.get? T=none ->T≠a ->
     h'.get? a=some (Z0 C t dd (.ref T)) ->(∃oT ts,h'.get? T=some oT/\oT.data= .fields ts/\ts[3]?=some (rawInt L)) ->Q () {s with heap:=h'}):
   wpAny M A (noteFrame (.ref a) env) Q E s:=by
 unfold noteFrame
 simp only[hf]
 refine wpAny_bind (wpAny_field ha rfl (x:=tb) rfl ?_)
 rcases ht with rfl|⟨T,oT,ts,rfl,nT,hT,dT,h3⟩
 . rw[if_neg (by decide)]
   refine C5c hfr hl hf ha fun h' T N=>?_
   exact h h' T (fun b o hb hba _ e=>N.keep b o hb hba e) (fun b o hba _ e=>N.slot b o hba e) N.new N.ne N.exc N.tbk
 rw[if_pos (show(Value.ref T !=Value.none)=true by simp)]
 refine wpAny_bind (wpAny_field hT dT h3 ?_)
 rw[if_neg (show¬((Value.none==rawInt L)=true) by simp[rawInt])]
 refine wpAny_bind (wpAny_setField hT dT (Array.getElem?_eq_some_iff.mp h3).1 ?_)
 have oth:∀(f:Obj ->Obj) b,b≠T ->(s.heap.update T f).get? b=s.heap.get? b:=fun f b hb=>Heap.get?_update_other _ _ (Ne.symm hb)
 have nrec:∀b o,s.heap.get? b=some o ->(∀vs,o.data≠ .fields vs) ->b≠T:=by
   intro b o e hn q
   rw[q,hT] at e
   cases e
   exact hn ts dT
 refine C5c (s:={s with heap:=_}) hfr (hl.of_keeps fun b o e hn=>⟨o,(oth _ b (nrec b o e hn)).trans e,rfl⟩) hf ((oth _ a (Ne.symm nT)).trans ha) fun h' T' N=>?_
 have neb:∀b,Value.ref T≠Value.ref b ->b≠T:=fun b q z=>q (by rw[z])
 refine h h' T' (fun b o hb hba hbT e=>N.keep b o hb hba ((oth _ b (neb b hbT)).trans e)) (fun b o hba hbT e=>N.slot b o hba ((oth _ b (neb b hbT)).trans e)) ?_ N.ne N.exc N.tbk
 have nw:=N.new
 by_cases q:T'=T
 . subst q
   have:=Heap.get?_update_self (Obj.mapFields (·.setIfInBounds 3 Value.none)) hT (Obj.isFreed_of_fields (Obj.data_mapFields dT _))
   rw[nw] at this
   cases this
 rw[oth _ T' q] at nw
 exact nw
theorem G7r{T:Addr}{oT:Obj}{ts:Array Value}{fl:Value}(ha:s.heap.get? a=some (Z0 C t dd (.ref T)))(nT:T≠a)(hT:s.heap.get? T=some oT)(dT:oT.data= .fields ts)(h3:ts[3]?=some fl)
   (h:∀h',(∀b o,b≠T ->s.heap.get? b=some o ->h'.get? b=some o) ->G7f h' a (.ref T) ->Q () {s with heap:=h'}):wpAny M A (setFlight (.ref a) none) Q E s:=by
 have sz:3<ts.size:=(Array.getElem?_eq_some_iff.mp h3).1
 unfold setFlight
 refine wpAny_bind (wpAny_field ha rfl (x:= .ref T) rfl ?_)
 rw[if_pos (show(Value.ref T !=Value.none)=true by simp)]
 refine wpAny_setField hT dT sz (h _ (fun b o hb e=>(Heap.get?_update_other _ _ (Ne.symm hb)).trans e) ?_)
 have d2:=Obj.data_mapFields dT (·.setIfInBounds 3 ((none:Option Addr).elim Value.none fun f=>rawInt f))
 exact .inr ⟨T,_,_,rfl,nT,Heap.get?_update_self _ hT (Obj.isFreed_of_fields d2),d2,by simp[sz]⟩
end
noncomputable def Hd (A:Around) (h:Heap):Prop:=A.handled=none\/∃x ox vs,A.handled=some (.ref x)/\h.get? x=some ox/\ox.data= .fields vs/\vs[2]?=some .none
theorem B4t : entryFor table "proto.unchain" = some Builtin.«proto.unchain» := entryFor_of_tree (by kernel_rfl)
section
variable{prog:Program}{w:World}{A:Around}{E:Value ->Shared ->Prop}{s:Shared}
theorem Hd.keeps{h h':Heap}(x:Hd A h)(k:∀b o,h.get? b=some o ->h'.get? b=some o):Hd A h':=by
 rcases x with z|⟨x,ox,vs,z,e,d,n⟩
 . exact .inl z
 exact .inr ⟨x,ox,vs,z,k x ox e,d,n⟩
theorem C0n{α:Type}{a:Addr}{oa:Obj}{ws:Array Value}{h₀:Heap}{Q:α ->Shared ->Prop}(hd:Hd A h₀)(k:∀b o,h₀.get? b=some o ->s.heap.get? b=some o)(na:h₀.get? a=none)
   (ha:s.heap.get? a=some oa) (da:oa.data= .fields ws) (h2:2<ws.size)
   (h:∀h',(∀b o,b≠a ->s.heap.get? b=some o ->h'.get? b=some o) ->(∃o',h'.get? a=some o'/\o'.cls=oa.cls) ->E (.ref a) {s with heap:=h'}):
   wpAny (model prog w) A (raiseNew (.ref a):Sem α) Q E s:=by
 unfold raiseNew
 refine wpAny_bind (wpAny_handled ?_)
 rcases hd with z|⟨x,ox,vs,z,e,d,n⟩
 . rw[z]
   exact wpAny_bind (wpAny_pure (wpAny_throw (h _ (fun b o _ e=>e) ⟨_,ha,rfl⟩)))
 rw[z]
 have nx:x≠a:=by
   intro q
   rw[q,na] at e
   cases e
 dsimp only
 rw[if_pos (show(Value.ref x !=Value.ref a)=true by simpa using nx)]
 refine wpAny_bind (wpAny_holding (wpAny_runValue (codeAny_builtin B4t ?_)))
 unfold Builtin.«proto.unchain»
 dsimp only
 refine wpAny_bind (wpAny_field (k x ox e) d n ?_)
 rw[if_pos (by decide)]
 refine wpAny_pure ?_
 dsimp only
 unfold updateField
 refine wpAny_bind (wpAny_bind (wpAny_load ha ?_))
 rw[da]
 dsimp only
 rw[if_pos h2]
 refine wpAny_update ha (wpAny_throw (h _ (fun b o hb e=>(Heap.get?_update_other _ _ (Ne.symm hb)).trans e) ⟨_,Heap.get?_update_self _ ha (Obj.isFreed_of_fields (Obj.data_mapFields da _)),Obj.cls_mapFields _ _⟩))
theorem D9y{α:Type}{Q:α ->Shared ->Prop}(hd:Hd A s.heap)
   (h:∀h' e,(∀b o,s.heap.get? b=some o ->h'.get? b=some o) ->({s with heap:=h'}:Shared).TypeIs (.ref e) "StopIteration" ->E (.ref e) {s with heap:=h'}):
   wpAny (model prog w) A (newExc (.type "StopIteration") []>>=fun e=>(raiseNew e:Sem α)) Q E s:=by
 refine wpAny_bind ?_
 simp only[newExc,newTuple]
 refine wpAny_bind (wpAny_newObj_type ?_ (by size_fits));refine wpAny_bind (m:=firstArgMember _ _) (wpAny_of_eq (a:=Value.none) (by first|rfl|(simp only[firstArgMember];rfl)) ?_)
 refine wpAny_newObj_type ?_ (by size_fits);dsimp only
 have k1:∀(z:Obj) b o,s.heap.get? b=some o ->(s.heap.push z).get? b=some o:=fun z b o e=>Heap.get?_push_of_some _ e
 have k2:∀(z y:Obj) b o,s.heap.get? b=some o ->((s.heap.push z).push y).get? b=some o:=fun z y b o e=>Heap.get?_push_of_some _ (Heap.get?_push_of_some _ e)
 have nw:∀(z:Obj),s.heap.get? (s.heap.push z).objs.size=none:=fun z=>Heap.get?_none_of_le (by rw[Heap.size_push];exact Nat.le_succ _)
 refine C0n (s:={s with heap:=_}) (h₀:=s.heap) hd (k2 _ _) (nw _) (Heap.get?_push_size _ rfl) rfl (by show 2<6;decide) fun h' k ⟨o',e',c'⟩=>h h' _ (fun b o e=>?_) ⟨o',e',c'⟩
 refine k b o ?_ (k2 _ _ b o e)
 intro q;rw[q,nw] at e;cases e
theorem B1c{it t:Addr}{i:Nat}{items:Array Value}{Q:Option Value ->Shared ->Prop}(hd:∀h':Heap,Heap.ExtBut it s.heap h' ->Hd A h')
   (hit:IsTupIter s.heap it t i) (hl:IsTup s.heap t items) (hx:items[i]?=none)
   (hQ:∀h',Heap.ExtBut it s.heap h' ->Q none {s with heap:=h'}):wpAny (model prog w) A (pyNext (.ref it)) Q E s:=by
 obtain⟨o,ho,hc,dt⟩:=id hit
 obtain⟨ol,hol,_,nl,dl⟩:=hl
 unfold pyNext
 refine wpAny_bind (wpAny_attempt (wpAny_callSpecial?_slot (name:=Str.ofString "__next__") hit.typeIs slot_tupleiter_next (wpAny_call_entry slot_tupleiter_next hit.typeIs entry_tupleiter_next ?_ (args_tupleiter_next _))))
 show wpAny _ _ (field (.ref it) 0>>=_) _ _ _;refine wpAny_bind (wpAny_field ho dt (x:= .ref t) rfl ?_)
 show wpAny _ _ (if(Value.ref t==Value.none)=true then _ else _) _ _ _;rw[if_neg (show¬((Value.ref t==Value.none)=true) by simp)]
 show wpAny _ _ (field (.ref it) 1>>=_) _ _ _;refine wpAny_bind (wpAny_field ho dt (x:= .int i 0) rfl ?_)
 show wpAny _ _ (seqItems? (.ref t)>>=_) _ _ _;refine wpAny_bind (wpAny_seqItems hol dl ?_)
 simp only[Int.toNat_natCast,hx]
 refine wpAny_bind (wpAny_rule (wpAny_bind (wpAny_setField ho dt (by simp) ?_)))
 have up:=fun f=>(Heap.SameBut.update (a:=it) (h:=s.heap) (f:=f)).extBut
 refine D9y (s:={s with heap:=_}) (A:=A.in1) (hd _ (up _)) fun h' e k ty=>?_
 refine wpAny_bind (wpAny_isInstance (T:="StopIteration") (b:=true) ty isSubtype_stop ?_)
 exact wpAny_pure (hQ h' fun b o hb z=>k b o (up _ b o hb z))
theorem C8b{t:Addr}{items:Array Value}{targets:List (Bool×(Value ->Sem Unit))}{Q:Unit ->Shared ->Prop}(hd:Hd A s.heap)(ht:IsTup s.heap t items)
   (hn:targets.length=items.size) (hst:targets.findIdx? (·.1)=none)
   (h:∀h',Heap.ExtBut s.heap.objs.size s.heap h' ->wpAny (model prog w) A (assignInOrder (targets.map (·.2)) items.toList) Q E {s with heap:=h'}):
   wpAny (model prog w) A (unpack (.ref t) targets) Q E s:=by
 have ne:t≠s.heap.objs.size:=by obtain⟨o,ho,_⟩:=ht;exact Nat.ne_of_lt (Heap.lt_size ho)
 unfold unpack
 rw[hn,hst]
 refine wpAny_bind (wpAny_holding ?_)
 unfold unpackItems
 refine wpAny_bind ?_
 unfold notIterableAtAll
 refine wpAny_bind (wpAny_specialOf ht.typeIs slot_tuple_iter.lookup (wpAny_pure ?_))
 simp only[Bool.false_eq_true,if_false]
 refine wpAny_bind (wpAny_holding (iter_tuple ht (wpAny_bind (wpAny_holding (draw_tuple ne items.size 0 _ _ ⟨_,Heap.get?_push_size _ rfl,rfl,rfl⟩ (ht.push _) (by omega) fun g hit sb=>?_)))))
 have all:List.take items.size (List.drop 0 items.toList)=items.toList:=List.take_of_length_le (by simp)
 rw[all,if_neg (by simp)]
 have old:∀b o,b≠s.heap.objs.size ->s.heap.get? b=some o ->g.get? b=some o:=fun b o hb e=>sb.extBut b o hb (Heap.get?_push_of_some _ e)
 refine wpAny_bind (wpAny_holding (B1c (fun h' k=>hd.keeps fun b o e=>?_) hit ((ht.push _).extBut sb.extBut ne) (by simp) fun h₂ he₂=>?_))
 . have nb:b≠s.heap.objs.size:=Nat.ne_of_lt (Heap.lt_size e)
   exact k b o nb (old b o nb e)
 simp only[Option.isSome_none,Bool.false_eq_true,if_false]
 exact wpAny_pure (h h₂ fun b o hb e=>he₂ b o hb (old b o hb e))
end
theorem Y4.there{P:Program}{w:World}{H:Hp}{h:Heap}{a:Addr}{o:HO}(x:Y4 P w H h a o):∃u,h.get? a=some u:=by
 cases o with
 |lst xs=>obtain⟨_,_,_,_,e⟩:=x;exact⟨_,e⟩
 |tup xs=>obtain⟨_,_,_,_,e,_⟩:=x;exact⟨_,e⟩
 |dK kvs=>obtain⟨_,_,_,_,o,_,_,e,_⟩:=x;exact⟨_,e⟩
 |dT kvs=>obtain⟨_,_,_,_,o,_,_,e,_⟩:=x;exact⟨_,e⟩
 |set S n=>obtain⟨o,_,_,_,e,_⟩:=x;exact⟨_,e⟩
 |ins C dx fs=>obtain⟨_,_,_,e,_⟩:=x;exact⟨_,e⟩
 |own y=>obtain⟨_,e⟩:=x;exact⟨_,e⟩
 |xd fs=>obtain⟨_,⟨_,_,_,e,_⟩,_⟩:=x;exact⟨_,e⟩
 |rng lo hi=>obtain⟨_,_,_,e⟩:=x;exact⟨_,e⟩
 |frz ob u=>obtain⟨e,_⟩:=x;exact⟨_,e⟩
 |tbl ps=>exact⟨_,show h.get? a=some _ from x⟩
 |met f y=>exact⟨_,show h.get? a=some _ from x⟩
 |ext φ=>obtain⟨_,e,_⟩:=x;exact e
theorem HOk.new{P:Program}{w:World}{H:Hp}{h:Heap}{a:Addr}(x:HOk P w H h)(e:h.get? a=none):H a=none:=by
 cases q:H a with
 |none=>rfl
 | some u=>
   obtain⟨o,z⟩:=(x a u q).there
   rw[e] at z
   cases z
structure Nw(X:Cx)(pins:List (Addr×Obj))(H:Hp)(b:Addr):Prop where
 un:H b=none
 loc:b≠X.env.locals
 fs:b ∉ X.fs
 old:X.s₀.heap.get? b=none
 cell:∀x c,X.env.cells.lookup x=some c ->c≠b
 pin:∀p∈X.pn++pins,p.1≠b
section
variable{X:Cx}{pins:List (Addr×Obj)}{σ:St}{H H':Hp}{s s':Shared}{a b t:Addr}{C:Value}{dd:Option Addr}
theorem Inv.fsFree(I:Inv X pins σ H s):∀b∈X.fs,H b=none:=fun b hb=>I.stkFree b (by
 rcases I.ok.stk with z|⟨z,zf⟩
 . rw[z];exact hb
 . rw[z]
   unfold frs
   rw[List.filterMap_cons,zf]
   exact List.mem_cons_of_mem _ hb)
theorem Inv.nw(I:Inv X pins σ H s)(hex:X.ex=[])(e:s.heap.get? b=none)(hu:H' b=none):Nw X pins H' b:=by
 refine⟨hu,?_,?_,?_,?_,?_⟩
 . rintro rfl
   obtain⟨m,⟨o,_,_,ho,_⟩,_⟩:=I.loc
   rw[e] at ho
   cases ho
 . intro hb
   obtain⟨_,o,ho,_⟩:=I.funs.mem hb
   rw[e] at ho
   cases ho
 . cases q:X.s₀.heap.get? b with
   |none=>rfl
   | some o=>
     obtain⟨o',z⟩:=I.base.there b o q (by rw[hex];simp)
     rw[e] at z
     cases z
 . rintro x c h rfl
   obtain⟨v,o,ho,_⟩:=I.cell x c h
   rw[e] at ho
   cases ho
 rintro p hp rfl
 obtain⟨z,_⟩:=I.pin p hp
 rw[e] at z
 cases z
theorem Inv.stepN{h':Heap}{ch:List Addr}(I:Inv X pins σ H s)(hch:∀b∈ch,Nw X pins H b)
   (keep:∀b o,b≠X.env.locals ->b ∉ X.fs ->b ∉ ch ->s.heap.get? b=some o ->h'.get? b=some o)
   (slot:∀b o,b ∉ ch ->s.heap.get? b=some o ->∃sl,h'.get? b=some {o with slots:=sl}):Inv X pins σ H {s with heap:=h'}:=by
 have neL:∀b o,X.s₀.heap.get? b=some o ->b≠X.env.locals:=fun b o e=>Nat.ne_of_lt (Nat.lt_of_lt_of_le (Heap.lt_size e) I.ok.above)
 have neC:∀b o,X.s₀.heap.get? b=some o ->b ∉ ch:=fun b o e hb=>by
   have z:=(hch b hb).old
   rw[e] at z
   cases z
 have cellK:∀x c,X.env.cells.lookup x=some c ->∀v,s.heap.IsCell c v ->h'.IsCell c v:=fun x c e v ⟨o,ho,hd⟩=>by
   have nch:c ∉ ch:=fun z=>(hch c z).cell x c e rfl
   obtain⟨sl,q⟩:=slot c o nch ho
   exact⟨_,q,hd⟩
 refine⟨I.ok,I.os,I.bare,⟨fun b o e n hb hx=>?_,fun b o e n hb hx=>?_,I.base.free,fun b o e hx=>?_,I.base.tups,I.base.frzs,I.base.tbls⟩,?_,fun x c e=>?_,I.free,I.freeC,fun p hp=>?_,?_,I.len⟩
 . exact keep b o (neL b o e) hb (neC b o e) (I.base.keep b o e n hb hx)
 . obtain⟨sl,e1⟩:=I.base.slot b o e n hb hx
   obtain⟨sl',e2⟩:=slot b _ (neC b o e) e1
   exact⟨sl',e2⟩
 . obtain⟨o',e1⟩:=I.base.there b o e hx
   obtain⟨sl',e2⟩:=slot b _ (neC b o e) e1
   exact⟨_,e2⟩
 . obtain⟨m,hn,hl⟩:=I.loc
   refine⟨m,?_,fun i x v e1 e2 e3=>?_⟩
   . obtain⟨o,es,ep,ho,r⟩:=hn
     obtain⟨sl,q⟩:=slot _ o (fun z=>(hch _ z).loc rfl) ho
     exact⟨_,es,ep,q,r⟩
   . obtain⟨u,r,l⟩:=hl i x v e1 e2 e3
     refine⟨u,r,?_⟩
     rcases l with l|⟨k,c,e,z⟩
     . exact .inl l
     . exact .inr ⟨k,c,e,cellK x c e _ z⟩
 . obtain⟨v,z⟩:=I.cell x c e
   exact⟨v,cellK x c e v z⟩
 . obtain⟨e,n,ne,nf,d⟩:=I.pin p hp
   exact⟨keep p.1 p.2 ne nf (fun z=>(hch p.1 z).pin p hp rfl) e,n,ne,nf,d⟩
 intro c o e
 have tr:∀b,H b≠none ->∀u,s.heap.get? b=some u ->h'.get? b=some u:=fun b hb u q=>
   keep b u (fun z=>hb (by rw[z];exact I.free)) (fun z=>hb (I.fsFree b z)) (fun z=>hb (hch b z).un) q
 refine(I.hok c o e).stay (fun b u hb q=>tr b ?_ u q) (fun _ q=>q) fun _ _ q=>q
 rcases hb with rfl|hb
 . rw[e];simp
 rw[hb];simp
noncomputable def Flt (X:Cx) (pins:List (Addr×Obj)) (H:Hp) (s:Shared) (a:Addr) (C:Value) (t:Addr) (dd:Option Addr):Prop:=
 Nw X pins H a/\∃tb,s.heap.get? a=some (Z0 C t dd tb)/\G7f s.heap a tb/\∀T,tb= .ref T ->Nw X pins H T
noncomputable def B4m (X:Cx) (pins:List (Addr×Obj)) (H:Hp) (s:Shared) (a:Addr) (C:Value) (t:Addr) (dd:Option Addr) (fl:Value):Prop:=
 Nw X pins H a/\∃T oT ts,s.heap.get? a=some (Z0 C t dd (.ref T))/\T≠a/\Nw X pins H T/\s.heap.get? T=some oT/\oT.data= .fields ts/\ts[3]?=some fl
structure G8g(X:Cx):Prop where
 ex:X.ex=[]
 st:X.stack=X.env::X.outer
 fr:X.env.frame=some X.env.locals
theorem B4m.flt(F:B4m X pins H s a C t dd .none):Flt X pins H s a C t dd:=by
 obtain⟨n,T,oT,ts,e,ne,nT,eT,dT,h3⟩:=F
 exact⟨n,_,e,.inr ⟨T,oT,ts,rfl,ne,eT,dT,h3⟩,fun T' z=>by cases z;exact nT⟩
noncomputable def C2y:Value ->List Addr
 | .ref z=>[z]
 |_=>[]
theorem B9y{M:Model}{E:Value ->Shared ->Prop}{Q:Unit ->Shared ->Prop}(B:G8g X)(I:Inv X pins σ H s)(F:Flt X pins H s a C t dd)
   (k:∀s',Inv X pins σ H s' ->B4m X pins H s' a C t dd (rawInt X.env.locals) ->Q () s'):wpAny M X.A (noteFrame (.ref a) X.env) Q E s:=by
 obtain⟨na,tb,e,ht,nT⟩:=F
 have hfr:=I.ok.frames
 rw[B.st] at hfr
 have hl:=I.stack
 rw[B.st] at hl
 refine G7v hfr hl B.fr e ht fun h' T k1 k2 k3 k4 k5 k6=>?_
 have ch:∀b,b ∉ a::C2y tb ->b≠a/\tb≠ .ref b:=by
   intro b hb
   refine⟨fun z=>hb (by rw[z];exact List.mem_cons_self),fun z=>hb ?_⟩
   rw[z]
   exact List.mem_cons_of_mem _ (List.mem_singleton.mpr rfl)
 have I':Inv X pins σ H {s with heap:=h'}:=by
   refine I.stepN (ch:=a::C2y tb) (fun b hb=>?_) (fun b o h1 h2 h3 q=>k1 b o ?_ (ch b h3).1 (ch b h3).2 q) (fun b o h3 q=>k2 b o (ch b h3).1 (ch b h3).2 q)
   . rcases List.mem_cons.mp hb with rfl|hb
     . exact na
     . cases tb<;>simp[C2y] at hb
       subst hb
       exact nT _ rfl
   . intro z
     rw[List.filterMap_cons,B.fr] at z
     rcases List.mem_cons.mp z with z|z
     . exact h1 z
     . exact h2 z
 obtain⟨oT,ts,q1,q2,q3⟩:=k6
 exact k _ I' ⟨na,T,oT,ts,k5,k4,I.nw B.ex k3 (I.hok.new k3),q1,q2,q3⟩
theorem B3e{M:Model}{A:Around}{E:Value ->Shared ->Prop}{Q:Unit ->Shared ->Prop}{fl:Value}(I:Inv X pins σ H s)(F:B4m X pins H s a C t dd fl)
   (k:∀s',Inv X pins σ H s' ->B4m X pins H s' a C t dd .none ->Q () s'):wpAny M A (setFlight (.ref a) none) Q E s:=by
 obtain⟨na,T,oT,ts,e,ne,nT,eT,dT,h3⟩:=F
 refine G7r e ne eT dT h3 fun h' k1 k2=>?_
 have I':Inv X pins σ H {s with heap:=h'}:=I.stepN (ch:=[T]) (fun b hb=>by
   have:b=T:=by simpa using hb
   subst this
   exact nT) (fun b o _ _ hb q=>k1 b o (fun z=>hb (by simp[z])) q) (fun b o hb q=>⟨_,k1 b o (fun z=>hb (by simp[z])) q⟩)
 rcases k2 with z|⟨T',oT',ts',z,_,q1,q2,q3⟩
 . cases z
 cases z
 exact k _ I' ⟨na,T,oT',ts',k1 a _ (Ne.symm ne) e,ne,nT,q1,q2,q3⟩
theorem C8n{M:Model}{E:Value ->Shared ->Prop}{Q:Unit ->Shared ->Prop}(B:G8g X)(I:Inv X pins σ H s)(F:Flt X pins H s a C t dd)
   (k:∀s',Inv X pins σ H s' ->B4m X pins H s' a C t dd .none ->Q () s'):wpAny M X.A (leaving X.env (.ref a)) Q E s:=by
 unfold leaving
 exact wpAny_bind (B9y B I F fun s1 I1 F1=>B3e I1 F1 k)
end
noncomputable abbrev EK:=Value ->Option Addr ->St ->Hp ->Prop
noncomputable def U0 (X:Cx) (EH:EK):Prop:=∀(pins:List (Addr×Obj)) (σ:St) (H:Hp) (s:Shared) (a t:Addr) (C:Value) (dd:Option Addr),Inv X pins σ H s ->Flt X pins H s a C t dd ->EH C dd σ H ->X.xe (.ref a) s
noncomputable def CX1 (P:Program) (w:World):CXT:=fun outer H s E e s'=>∃(a t:Addr) (C:Value) (dd:Option Addr) (H':Hp),e= .ref a/\s'.os=s.os/\AllBare s'.gens/\Un (frs outer) [] H H' s.heap s'.heap/\HOk P w H' s'.heap/\E C dd H'/\
 (s.heap.get? a=none/\H' a=none)/\∃T oT ts,s'.heap.get? a=some (Z0 C t dd (.ref T))/\T≠a/\(s.heap.get? T=none/\H' T=none)/\s'.heap.get? T=some oT/\oT.data= .fields ts/\ts[3]?=some .none
theorem B3g{P:Program}{w:World}{K:PySem.W.Frag}{mg:Str ->Option Value}{base:Heap}{N:List Str}{qual:Str}{scope:Scope}{f:Addr}{cd:Value}{A:Around}{outer:List Env}{s:Shared}{H:Hp}{E:XK}:
   U0 (A1j (CX1 P w) P w K mg base N qual scope f cd A outer s H E) (fun C dd _ H'=>E C dd H'):=by
 intro pins σ H' s' a t C dd I F h
 refine C8n (X:=A1j (CX1 P w) P w K mg base N qual scope f cd A outer s H E) ⟨rfl,rfl,rfl⟩ I F fun s2 I2 F2=>?_
 obtain⟨na,T,oT,ts,e,ne,nT,eT,dT,h3⟩:=F2
 exact⟨a,t,C,dd,H',rfl,I2.os,I2.bare,I2.base,I2.hok,h,⟨na.old,na.un⟩,T,oT,ts,e,ne,⟨nT.old,nT.un⟩,eT,dT,h3⟩
section
variable{X:Cx}{k:Nat}{f C:Addr}{fd:FuncData}{ps:List Str}{sp:Sp}{dvs:List V}{ds:List Value}{EH:EK}{x m:Str}{p pos apos:Pos}{e o:Expr}{es:List Expr}{ta:TE}{t:TA}
theorem J0q{pins:List (Addr×Obj)}{σ:St}{H:Hp}{s:Shared}{e:Value}{s':Shared}(hx:U0 X EH)(hex:X.ex=[])(I:Inv X pins σ H s)
   (h:CX1 X.prog X.w X.stack H s (fun C d H'=>EH C d σ H') e s'):X.xe e s':=by
 obtain⟨a,t,C,dd,H',rfl,os,bare,un,hok,hE,⟨a1,a2⟩,T,oT,ts,z,ne,⟨t1,t2⟩,eT,dT,h3⟩:=h
 have I':Inv X pins σ H' s':=I.call' (ch:=[]) os un hok bare (fun b q=>absurd q (by simp))
 exact hx pins σ H' s' a t C dd I' (B4m.flt ⟨I.nw hex a1 a2,T,oT,ts,z,ne,I.nw hex t1 t2,eT,dT,h3⟩) hE
theorem B1t{pins:List (Addr×Obj)}{σ:St}{H:Hp}{s:Shared}{Q:VK}{us:List Value}{vs:List V}(F:A8 X.prog X.w X.K X.mg X.base (CX1 X.prog X.w) k f fd ps sp)(hr:A0j k X.A)(hb:Binds X.K fd ps ds)(hd:J1 dvs ds)
   (hx:U0 X EH) (hex:X.ex=[]) (I:Inv X pins σ H s) (r:J1 vs us) (h:sp (vs++dvs) H Q (fun C d H'=>EH C d σ H')):wpAny (model X.prog X.w) X.A (call (.ref f) us) (EP X pins σ Q) X.xe s:=by
 have r2:J1 (vs++dvs) (us++ds):=r.append hd
 have hl:(us++ds).length=ps.length:=by rw[<-r2.length];exact F.len _ _ _ _ h
 refine wpAny_call (codeAny_mono (F.run X.A X.stack s H ⟨us,[]⟩ (us++ds) (vs++dvs) Q _ hr I.env0 (hb s us I.kIn hl) r2 h) fun r s' hq=>?_)
 cases r with
 |error e=>exact J0q hx hex I hq
 | ok fl=>
   cases fl with
   |ret u=>exact I.after hq
   |next=>exact False.elim hq
   |brk=>exact False.elim hq
   |cont=>exact False.elim hq
noncomputable def B2r (sp:Sp) (dvs:List V) (EH:EK) (t:TA):TE:=fun σ H Q=>t σ H fun vs H1=>sp (vs++dvs) H1 Q (fun C d H'=>EH C d σ H')
theorem C9y(F:A8 X.prog X.w X.K X.mg X.base (CX1 X.prog X.w) k f fd ps sp)(hr:A0j k X.A)(hg:Gl X x)(hm:X.mg x=some (.ref f))(hk:PySem.W.keepIn X.K (.ref f)=true)(hb:Binds X.K fd ps ds)(hd:J1 dvs ds)
   (hx:U0 X EH) (ha:PA X (e::es) t) (hex:X.ex=[]:=by rfl) (hdb:(x==("__debug__":Str))=false:=by decide) (he:starEach (e::es) X.env=(false,eval e X.env)::starEach es X.env:=by rfl)
   (hpl:(backTo pos (starEach es X.env)).any (·.1)=false:=by rfl):PE X (.Call (.Name x p) (e::es) [] pos) (B2r sp dvs EH t):=by
 intro pins s σ H Q I h
 refine wpAny_Call_Name_kw (A1w I hg hm ?_ hdb)
 refine PySem.W.callWith_K (h₀:=X.base) I.ok.mod.kin hk (thn (ha pos pins s σ H _ I h) fun us s1 ⟨vs,H1,I1,r,q⟩=>⟨I1.kIn,?_⟩) he hpl
 exact B1t F hr hb hd hx hex I1 r q
theorem C6s(F:A8 X.prog X.w X.K X.mg X.base (CX1 X.prog X.w) k f fd ps sp)(hr:A0j k X.A)(hg:Gl X x)(hm:X.mg x=some (.ref f))(hk:PySem.W.keepIn X.K (.ref f)=true)(hb:Binds X.K fd ps ds)(hd:J1 dvs ds)
   (hx:U0 X EH) (hex:X.ex=[]:=by rfl) (hdb:(x==("__debug__":Str))=false:=by decide):PE X (.Call (.Name x p) [] [] pos) (B2r sp dvs EH C7a):=by
 intro pins s σ H Q I h
 refine wpAny_Call_Name_kw (A1w I hg hm ?_ hdb)
 exact PySem.W.callWith_K0 I.kIn hk (B1t (us:=[]) F hr hb hd hx hex I .nil h)
end
section
variable{P:Program}{w:World}{K:PySem.W.Frag}{mg:Str ->Option Value}{base:Heap}
theorem Fun.okE{x qual:Str}{st:Stmt}{f:Addr}{fd:FuncData}{N ps:List Str}{k:Nat}{sp:Sp}(F:Fun K x qual st f fd)(S:B7 N ps (A7 st))(len:∀vs H Q E,sp vs H Q E ->vs.length=ps.length)
   (hbody:∀(X:Cx) (cdv:Value) (A:Around) (outer:List Env) (s:Shared) (H:Hp) (vs:List V) (Q:VK) (E:XK),X=A1j (CX1 P w) P w K mg base N qual (A7 st) f cdv A outer s H E ->A0j k X.A ->U0 X (fun C dd _ H'=>E C dd H') ->sp vs H Q E ->
     ∃t,PSs (A1j (CX1 P w) P w K mg base N qual (A7 st) f cdv A outer s H E) (J0 st) t/\t {nx:=fun _ H'=>Q .non H',rt:=Q} (A6p N vs) H):A8 P w K mg base (CX1 P w) (k+1) f fd ps sp:=by
 obtain⟨oc,od,kV,doc,pm,an,cdv,ct,osl,rfl,lk,hc⟩:=F.ex
 exact D3c lk hc S len fun A outer s H vs Q E hr h=>hbody _ cdv A outer s H vs Q E rfl hr B3g h
theorem A8.up{k:Nat}{f:Addr}{fd:FuncData}{ps:List Str}{sp:Sp}(F:A8 P w K mg base CX0 k f fd ps sp):A8 P w K mg base (CX1 P w) k f fd ps sp:=by
 refine⟨F.len,fun A outer s H args us vs Q E hr e0 hb r h=>codeAny_mono (F.run A outer s H args us vs Q E hr e0 hb r h) fun r s' q=>?_⟩
 cases r with
 |error e=>exact False.elim q
 |ok fl=>cases fl<;>exact q
end
end L2
namespace L2
open PySem PySem.Spec PyProof.Rows PySem.W
theorem G2q{K:Frag}{h:Heap}{C:Addr}{bmB:List Value}{newId:String}(X:K.In h)(q:excIn K C bmB newId=true):
   ∃ (bm:List Value) (N:Addr) (nm qn:Str) (bs:List Value) (hd:Bool) (sn:List Str) (sub:List Value) (ab:Bool) (col:Option Bool) (dd:Option Addr) (k0 k1 k2 k3 k5:Option Value) (mN:Str ->Option Value),
     h.get? C=some (excClassObj nm qn C N bs bm hd sn sub ab col dd k0 k1 k2 k3 k5 newId)/\h.Ns N mN/\mN "__init__"=none/\OwnTail h bmB bm:=by
 unfold excIn at q
 split at q
 . rename_i dd cd sl ho
   split at q
   . rename_i C' bm k0 k1 k2 k3 n k5 hm hs
     simp only[Bool.and_eq_true,beq_iff_eq,Bool.not_eq_true'] at q
     obtain⟨⟨⟨⟨⟨r1,r2⟩,r3⟩,r4⟩,r5⟩,r6⟩:=q
     subst r1 r2
     obtain⟨a1,a2,a3,a4,a5,a6,a7,a8,a9,a10,a11⟩:=cd
     dsimp only at hm r3 r5 r6
     subst hm r3
     have hsl:sl= #[k0,k1,k2,k3,some (.builtin n),k5]:=by
       obtain⟨l⟩:=sl
       simp only at hs
       rw[hs]
     subst hsl
     exact⟨bm,a4,a1,a5,a2,a6,a7,a8,a9,a10,dd,k0,k1,k2,k3,k5,_,X _ _ ho,.of_isNs (isNs_of_in X r5),nsMap_none_of_in X r5 r6,tail_of_in X r4⟩
   . cases q
 cases q
section
variable{X:Cx}{x:Str}{p cpos pos:Pos}{e:Expr}{es:List Expr}{t:TA}{C:Addr}{bmB:List Value}{B newId initId:String}{EH:EK}
noncomputable def G5f (C:Addr) (EH:EK) (t:TA):TS:=fun _ σ H=>t σ H fun vs H1=>vs.length<=sizeLine/\EH (.ref C) none σ H1
theorem A2v(hg:Gl X x)(hm:X.mg x=some (.ref C))(q:excIn X.K C bmB newId=true)(FB:ExcBaseFacts B newId initId bmB)(hh:X.A.handled=none)(hx:U0 X EH)(ha:PA X (e::es) t)(hex:X.ex=[]:=by rfl)
   (hdb:(x==("__debug__":Str))=false:=by decide) (he:starEach (e::es) X.env=(false,eval e X.env)::starEach es X.env:=by rfl) (hpl:(backTo cpos (starEach es X.env)).any (·.1)=false:=by rfl):
   PS X (.Raise (some (.Call (.Name x p) (e::es) [] cpos)) none pos) (G5f C EH t):=by
 intro pins s σ H D I h
 obtain⟨bm,N,nm,qn,bs,hd,sn,sub,ab,col,dd,k0,k1,k2,k3,k5,mN,hC,hN,hni,T⟩:=G2q I.ok.mod.kin q
 refine wpAny_Raise_call_subT (C:=C) (nm:=nm) (q:=qn) (N:=N) (bs:=bs) (bm:=bm) (hdct:=hd) (sn:=sn) (sub:=sub) (ab:=ab) (col:=col) (dd:=dd) (k0:=k0) (k1:=k1) (k2:=k2) (k3:=k3) (k5:=k5) FB (mN:=mN) (T.hasType FB.hasBase) hh
   (by rw[he];show(false||(backTo cpos (starEach es X.env)).any (·.1))=false;rw[hpl];rfl) hni (A1w I hg hm ⟨rfl,?_⟩ hdb)
 have ha':=ha cpos pins s σ H _ I h
 rw[he] at ha' ⊢
 refine Calls.evalArgs_plain (wpAny_mono ha' (fun us s2 ⟨vs,H1,I1,r,z,q⟩=>⟨rfl,by rw[<-r.length];exact z,I1.bk _ _ hC,hN.keeps I1.bk,T.keeps I1.bk,fun h' a m=>?_⟩) fun _ _ y=>y)
 have I2:Inv X pins σ H1 {s2 with heap:=h'}:=I1.kept (t':=s2.toks) m.keeps
 obtain⟨t',e1,tn,e2⟩:=m.there
 exact hx pins σ H1 _ a t' (.ref C) none I2 ⟨I1.nw hex m.new (I1.hok.new m.new),.none,e1,.inl rfl,fun T z=>nomatch z⟩ q
end
section
variable{X:Cx}{pins:List (Addr×Obj)}{σ:St}{H:Hp}{s:Shared}
theorem Inv.track{a:Addr}{o:Obj}(I:Inv X pins σ H s)(n:Nw X pins H a)(e:s.heap.get? a=some o):Inv X pins σ (upd H a (.frz o (.own a))) s:=by
 have ne:∀b u,H b=some u ->b≠a:=fun b u z q=>by rw[q,n.un] at z;cases z
 have up:∀b,b≠a ->upd H a (.frz o (.own a)) b=H b:=fun b hb=>D5 hb
 refine⟨I.ok,I.os,I.bare,⟨I.base.keep,I.base.slot,fun b u z m hx=>?_,I.base.there,fun b xs z=>?_,fun b u v z=>?_,fun b ps z=>?_⟩,I.loc,I.cell,?_,fun x c z=>?_,fun p hp=>?_,fun b u z=>?_,I.len⟩
 . rw[up b fun q=>by rw[q,n.old] at z;cases z]
   exact I.base.free b u z m hx
 . have:=I.base.tups b xs z
   rw[up b (ne b _ this)];exact this
 . have:=I.base.frzs b u v z
   rw[up b (ne b _ this)];exact this
 . obtain⟨more,this⟩:=I.base.tbls b ps z
   exact⟨more,by rw[up b (ne b _ this)];exact this⟩
 . rw[up _ (Ne.symm n.loc)];exact I.free
 . rw[up _ (n.cell x c z)];exact I.freeC x c z
 . obtain⟨q1,q2,q3⟩:=I.pin p hp
   exact⟨q1,by rw[up _ (n.pin p hp)];exact q2,q3⟩
 by_cases hb:b=a
 . subst hb
   rw[A6] at z
   cases z
   exact⟨e,_,e⟩
 rw[up b hb] at z
 exact(I.hok b u z).stay (fun _ _ _ q=>q) (fun c q=>by rw[up c (ne c _ q)];exact q) (fun c xs q=>by rw[up c (ne c _ q)];exact q)
theorem C7d{M:Model}{A:Around}{E:Value ->Shared ->Prop}{i:Nat}{x:Str}{v:V}{Q:Unit ->Shared ->Prop}(I:Inv X pins σ H s)(hN:X.N.Nodup)(hi:X.N[i]?=some x)(hk:X.env.scope.names.lookup x=some .local)(hv:σ[i]?=some (some v))
   (k:∀s',Inv X pins (σ.set i none) H s' ->Q () s'):wpAny M A (unbindName X.env x) Q E s:=by
 obtain⟨m,hn,hl⟩:=id I.loc
 have hcls:(X.env.scope.kind== .class||(X.env.scope.kind== .module&&X.env.locals !=X.env.globals))=false:=by rw[I.ok.kind];rfl
 obtain⟨u,_,lk⟩:=hl i x v hi hv (.inl hk)
 have hm:m x=some u:=by
   rcases lk with⟨_,z⟩|⟨z,_⟩
   . exact z
   . have z:X.env.scope.names.lookup x=some .cell\/X.env.scope.names.lookup x=some .free:=z
     rw[hk] at z
     rcases z with z|z<;>cases z
 refine wpAny_unbindName_local hk hn hm hcls fun h' w' hn' hs=>k _ ?_
 obtain⟨oL,_,_,hoL,_⟩:=id hn
 have nl:∀b o,X.s₀.heap.get? b=some o ->b≠X.env.locals:=fun b o e=>Nat.ne_of_lt (Nat.lt_of_lt_of_le (Heap.lt_size e) I.ok.above)
 refine⟨I.ok,I.os,I.bare,⟨fun b o e n hb hx=>?_,fun b o e n hb hx=>?_,I.base.free,fun b o e hx=>?_,I.base.tups,I.base.frzs,I.base.tbls⟩,⟨_,hn',fun j y v' e1 e2 e3=>?_⟩,fun y c e=>?_,I.free,I.freeC,fun p hp=>?_,fun b u z=>?_,by simpa using I.len⟩
 . exact(hs.2 b (nl b o e)).trans (I.base.keep b o e n hb hx)
 . obtain⟨sl,e1⟩:=I.base.slot b o e n hb hx
   exact⟨sl,(hs.2 b (nl b o e)).trans e1⟩
 . obtain⟨o',e1⟩:=I.base.there b o e hx
   exact⟨o',(hs.2 b (nl b o e)).trans e1⟩
 . by_cases hj:j=i
   . subst hj
     have hlen:j<σ.length:=(List.getElem?_eq_some_iff.mp hv).1
     rw[List.getElem?_set_self hlen] at e2
     cases e2
   . rw[List.getElem?_set_ne (Ne.symm hj)] at e2
     obtain⟨u',r',q⟩:=hl j y v' e1 e2 e3
     refine⟨u',r',?_⟩
     rcases q with⟨k1,e⟩|⟨k1,c,e,z⟩
     . have:y≠x:=fun e=>hj (B3b hN e1 (e▸hi))
       exact .inl ⟨k1,by simp[this,e]⟩
     . exact .inr ⟨k1,c,e,z.sameBut hs (I.cne y c e)⟩
 . obtain⟨w2,z⟩:=I.cell y c e
   exact⟨w2,z.sameBut hs (I.cne y c e)⟩
 . obtain⟨e,n,ne,nf,d⟩:=I.pin p hp
   exact⟨(hs.2 p.1 ne).trans e,n,ne,nf,d⟩
 refine(I.hok b u z).stay (fun c w2 hc q=>(hs.2 c ?_).trans q) (fun _ q=>q) fun _ _ q=>q
 rintro rfl
 rcases hc with rfl|hc
 . rw[I.free] at z;cases z
 rw[I.free] at hc;cases hc
end
noncomputable abbrev Cx.hold (X:Cx) (pins:List (Addr×Obj)) (E:Value ->Shared ->Prop):Cx:={X with pn:=X.pn++pins,xe:=E}
noncomputable abbrev Cx.hnd (X:Cx) (pins:List (Addr×Obj)) (a:Addr):Cx:={X with A:=X.A.mark (some (.ref a)),calm:=false,pn:=X.pn++pins,xe:=fun _ _=>False}
section
variable{X:Cx}{pins pins':List (Addr×Obj)}{σ:St}{H:Hp}{s:Shared}{a:Addr}{E:Value ->Shared ->Prop}
theorem Inv.hold(I:Inv X pins σ H s):Inv (X.hold pins E) [] σ H s:=
 ⟨⟨I.ok.mod,I.ok.kind,I.ok.glob,I.ok.blt,I.ok.above,I.ok.inj,I.ok.has,I.ok.cab,I.ok.hd,I.ok.frames,I.ok.stk,I.ok.exf,I.ok.bs,I.ok.bsz,I.ok.noex,I.ok.exfs,I.ok.funs,I.ok.frf⟩,
   I.os,I.bare,I.base,I.loc,I.cell,I.free,I.freeC,fun p hp=>I.pin p (by simpa using hp),I.hok,I.len⟩
theorem Inv.unhold(I:Inv (X.hold pins E) pins' σ H s):Inv X pins σ H s:=
 ⟨⟨I.ok.mod,I.ok.kind,I.ok.glob,I.ok.blt,I.ok.above,I.ok.inj,I.ok.has,I.ok.cab,I.ok.hd,I.ok.frames,I.ok.stk,I.ok.exf,I.ok.bs,I.ok.bsz,I.ok.noex,I.ok.exfs,I.ok.funs,I.ok.frf⟩,
   I.os,I.bare,I.base,I.loc,I.cell,I.free,I.freeC,fun p hp=>I.pin p (List.mem_append_left _ hp),I.hok,I.len⟩
theorem Inv.hnd(I:Inv X pins σ H s):Inv (X.hnd pins a) [] σ H s:=
 ⟨⟨I.ok.mod,I.ok.kind,I.ok.glob,I.ok.blt,I.ok.above,I.ok.inj,I.ok.has,I.ok.cab,(fun z=>nomatch z),I.ok.frames,I.ok.stk,I.ok.exf,I.ok.bs,I.ok.bsz,I.ok.noex,I.ok.exfs,I.ok.funs,I.ok.frf⟩,
   I.os,I.bare,I.base,I.loc,I.cell,I.free,I.freeC,fun p hp=>I.pin p (by simpa using hp),I.hok,I.len⟩
theorem Inv.unhnd(ok:X.Ok)(I:Inv (X.hnd pins a) pins' σ H s):Inv X pins σ H s:=
 ⟨ok,I.os,I.bare,I.base,I.loc,I.cell,I.free,I.freeC,fun p hp=>I.pin p (List.mem_append_left _ hp),I.hok,I.len⟩
theorem Nw.unhold{b:Addr}(n:Nw (X.hold pins E) pins' H b):Nw X pins H b:=⟨n.un,n.loc,n.fs,n.old,n.cell,fun p hp=>n.pin p (List.mem_append_left _ hp)⟩
theorem Flt.unhold{t:Addr}{C:Value}{dd:Option Addr}(F:Flt (X.hold pins E) pins' H s a C t dd):Flt X pins H s a C t dd:=by
 obtain⟨n,tb,e,ok,m⟩:=F
 exact⟨n.unhold,tb,e,ok,fun T z=>(m T z).unhold⟩
theorem SP.unhold{D:B4x}{f:Flow}{s':Shared}(h:SP (X.hold pins E) pins' D f s'):SP X pins D f s':=by
 cases f with
 |next=>obtain⟨σ',H',I,q⟩:=h;exact⟨σ',H',I.unhold,q⟩
 |brk=>obtain⟨σ',H',I,q⟩:=h;exact⟨σ',H',I.unhold,q⟩
 |cont=>obtain⟨σ',H',I,q⟩:=h;exact⟨σ',H',I.unhold,q⟩
 |ret u=>obtain⟨v,σ',H',I,r,q⟩:=h;exact⟨v,σ',H',I.unhold,r,q⟩
end
structure C3k(K:Frag)(R:Addr):Prop where
 ty:typeIn K (.ref R)=some (.type "type")
 cl:(clsIn K R).isSome=true
 ex:subIn K (.ref R) (.type "BaseException")=some true
theorem A4v{K:Frag}{M:Model}{h:Heap}{R:Addr}(X:K.In h)(c:(clsIn K R).isSome=true):Looks M h (isType (.ref R)) true:=by
 unfold clsIn at c
 split at c
 . rename_i ho
   intro A' Q' E' s' k q
   unfold isType loadHead
   exact wpAny_bind (wpAny_loadPart (k _ _ (X _ _ ho)) (wpAny_pure q))
 cases c
theorem C7f{K:Frag}{M:Model}{A:Around}{E:Value ->Shared ->Prop}{s:Shared}{a R:Addr}{C:Value}{oa:Obj}{b:Bool}{Q:Bool ->Shared ->Prop}(X:K.In s.heap)(ha:s.heap.get? a=some oa)(hc:oa.cls=C)(c:C3k K R)
   (m:subIn K C (.ref R)=some b) (h:Q b s):wpAny M A (excMatches (.ref a) (.ref R)) Q E s:=by
 obtain⟨hp,g,d,tk,os⟩:=s
 have L1:Looks M hp (typeOf (.ref R)) (.type "type"):=looks_typeIn X c.ty
 have L2:Looks M hp (isSubtype (.ref R) (.type "BaseException")) true:=looks_subIn X c.ex
 have L3:Looks M hp (isSubtype C (.ref R)) b:=looks_subIn X m
 have L4:Looks M hp (typeOf (.ref a)) C:=hc▸(Looks.ld ha).andThen .now
 have L5:Looks M hp (isType (.ref R)) true:=A4v X c.cl
 unfold excMatches
 unfold isInstance
 refine wpAny_bind (wpAny_bind (L1.at ?_))
 rw[tc_notTuple]
 refine wpAny_pure ?_
 simp only[Bool.false_eq_true,if_false]
 refine wpAny_bind (wpAny_pure ?_)
 simp only[List.forIn_cons,List.forIn_nil]
 unfold isExcClass
 refine wpAny_bind (wpAny_bind (wpAny_bind (wpAny_bind (L5.at ?_))))
 simp only[if_true]
 refine L2.at ?_
 simp only[Bool.not_true,Bool.false_eq_true,if_false]
 refine wpAny_pure (wpAny_pure ?_)
 refine wpAny_bind (L4.at ?_)
 refine wpAny_bind (wpAny_bind (wpAny_bind (L3.at ?_)))
 cases b with
 |true=>simp only[if_true];exact wpAny_pure (wpAny_pure (wpAny_pure h))
 |false=>simp only[Bool.false_eq_true,if_false];exact wpAny_pure (wpAny_pure (wpAny_pure h))
noncomputable def J5y (K:Frag) (R:Addr) (i:Nat) (tb:EK ->TS) (ts:Addr ->TS):TS:=fun D σ H=>
 tb (fun C dd σ' H'=>subIn K C (.ref R)=some true/\∀(a t T:Addr),H' a=none ->
   ts a {nx:=fun σ2 H2=>D.nx (σ2.set i none) H2,rt:=D.rt,bk:=fun σ2 H2=>D.bk (σ2.set i none) H2,ct:=fun σ2 H2=>D.ct (σ2.set i none) H2}
     (σ'.set i (some (.ref a))) (upd H' a (.frz (Z0 C t dd (.ref T)) (.own a)))) D σ H
section
variable{X:Cx}{x n:Str}{np hpos pos:Pos}{R:Addr}{i:Nat}{body suite:List Stmt}{b₀:Stmt}{tb:EK ->TS}{ts:Addr ->TS}
theorem G5p(B:G8g X)(hg:Gl X x)(hm:X.mg x=some (.ref R))(c:C3k X.K R)(hN:X.N.Nodup)(hi:X.N[i]?=some n)(hk:X.env.scope.names.lookup n=some .local)
   (hb:∀pins Ew EHb,U0 (X.hold pins Ew) EHb ->PSs (X.hold pins Ew) body (tb EHb)) (hs:∀pins a,PSs (X.hnd pins a) (b₀::suite) (ts a))
   (hdb:(x==("__debug__":Str))=false:=by decide) (hf:X.fn n=true\/X.env.scope.names.lookup n=some .local:=by first|exact .inl rfl|exact .inr rfl|assumption):
   PS X (.Try body [.ExceptHandler (some (.Name x np)) (some n) (b₀::suite) hpos] [] [] pos) (J5y X.K R i tb ts):=by
 intro pins s σ H D I h
 refine wpAny_Try_except ?_
 refine wpAny_mono (hb pins _ _ ?cat [] s σ H D I.hold h) (fun f s1 hf1=>?_) (fun e s1 he=>he)
 case cat=>
   intro pins' σ' H' s' a t C dd I' F' hE
   obtain⟨hsub,hE⟩:=hE
   show wpAny (model X.prog X.w) X.A (noteFrame (.ref a) X.env) _ X.xe s'
   have J:=I'.unhold
   have F:=F'.unhold
   refine B9y B J F fun s2 J2 F2=>B3e J2 F2 fun s3 J3 F3=>?_
   obtain⟨na,T,oT,ts',e3,ne3,nT3,eT3,dT3,h33⟩:=id F3
   refine wpAny_handleBy_cons (codeAny_handlers_test ?_) (by intro z;cases z)
   have K3:Inv (X.hnd pins a) [] σ' H' s3:=J3.hnd
   refine A1w K3 hg hm ?_ hdb
   refine C7f J3.kIn e3 rfl c hsub ?_
   show codeAny _ _ _ _ _
   refine codeAny_handlers_suite_as ?_
   refine B3e J3 F3 fun s4 J4 F4=>?_
   obtain⟨na4,T4,oT4,ts4,e4,_⟩:=id F4
   have J5:=J4.track na4 e4
   refine A5k (v:= .ref a) J5 hN hi (.inl hk) rfl (fun s5 J6=>?_) hf
   refine wpAny_mono (hs pins a [] s5 _ _ _ J6.hnd (hE a t T4 na4.un)) (fun f s6 hf6=>?_) (fun _ _ z=>z.elim)
   have fin:∀{σ6:St} {H6:Hp} {Q6:Unit ->Shared ->Prop},Inv (X.hnd pins a) [] σ6 H6 s6 ->(∀s7,Inv X pins (σ6.set i none) H6 s7 ->Q6 () s7) ->
       wpAny (model X.prog X.w) X.A (do bindName X.env n .none;unbindBehindTheSuite X.env n hpos) Q6 X.xe s6:=by
     intro σ6 H6 Q6 K6 k6
     have L6:=K6.unhnd J6.ok
     refine wpAny_bind (wpAny_bindName (A5k (v:= .non) L6 hN hi (.inl hk) rfl (fun s7 J7=>?_) hf))
     unfold unbindBehindTheSuite
     have hlen:i<σ6.length:=by rw[L6.len];exact(List.getElem?_eq_some_iff.mp hi).1
     refine wpAny_onRaise (C7d J7 hN hi hk (List.getElem?_set_self hlen) fun s8 J8=>k6 s8 ?_)
     rw[List.set_set] at J8
     exact J8
   cases f with
   |next=>obtain⟨σ6,H6,K6,q⟩:=hf6;exact fin K6 fun s7 J7=>⟨_,_,J7,q⟩
   |brk=>obtain⟨σ6,H6,K6,q⟩:=hf6;exact fin K6 fun s7 J7=>⟨_,_,J7,q⟩
   |cont=>obtain⟨σ6,H6,K6,q⟩:=hf6;exact fin K6 fun s7 J7=>⟨_,_,J7,q⟩
   |ret u=>obtain⟨v,σ6,H6,K6,r,q⟩:=hf6;exact fin K6 fun s7 J7=>⟨v,_,_,J7,r,q⟩
 cases f with
 |next=>exact wpAny_execs_nil (SP.unhold hf1)
 |brk=>exact SP.unhold hf1
 |cont=>exact SP.unhold hf1
 |ret u=>exact SP.unhold hf1
end
structure C1b(K:Frag)(C:Addr):Prop where
 ga:findIn K (.ref C) "__getattribute__"=some (some (.builtin "BaseException.__getattribute__"))
 gh:findIn K (.ref C) "__getattr__"=some none
 ca:findIn K (.ref C) "__class__"=some (some (.builtin "object.__class__"))
 sn:specialIn K (.builtin "object.__class__") "__get__"=some (some (.builtin "getset_descriptor.__get__"))
 tk:takesIn K (.builtin "object.__class__")=some true
 ob:mroIn K C (.type "object")=some true
 be:subIn K (.ref C) (.type "BaseException")=some true
 cl:(clsIn K C).isSome=true
theorem A5v{prog:Program}{w:World}{A:Around}{E:Value ->Shared ->Prop}{s:Shared}{K:Frag}{a C:Addr}{oa:Obj}{od:Option Obj}{Q:Option Value ->Shared ->Prop}(F:C1b K C)(X:K.In s.heap)(I:PySem.W.InstAt s.heap a oa C od)
   (h:Q (some (.ref C)) {s with toks:=s.toks+1}):wpAny (model prog w) A (getAttr? (.ref a) "__class__") Q E s:=by
 obtain⟨hp,g,d,t,os⟩:=s
 have L0:=I.type (M:=model prog w)
 have L1:=looks_findIn (M:=model prog w) X F.ga
 have L2:=looks_findIn (M:=model prog w) X F.gh
 have L3:Looks (model prog w) hp (isInstance (.ref a) (.type "BaseException")) true:=L0.andThen (looks_subIn X F.be)
 have hf:findObj K C od "__class__"=some (.bind (.builtin "getset_descriptor.__get__") (.builtin "object.__class__")):=by
   obtain⟨cd,hc⟩:=Option.isSome_iff_exists.mp F.cl
   unfold findObj
   rw[hc,Option.bind_some,F.ca,Option.bind_some]
   simp[F.sn,F.tk]
 have L4:=looks_find (M:=model prog w) X I hf
 have hk:builtinKind "BaseException.__getattribute__"=some .slot:=by decide+kernel
 have hsplit:splitId "BaseException.__getattribute__"=some ("BaseException","__getattribute__"):=by decide+kernel
 have hargs:=PySem.F.args_bexc_ga (.ref a) (.str "__class__" t)
 have hb:=PySem.F.attr_ValueError.ga.bind (.ref a)
 unfold getAttr? getAttrBy? getAttrBy
 refine wpAny_bind (wpAny_mkText (wpAny_bind (wpAny_attempt (wpAny_holding (wpAny_bind (L0.at (wpAny_bind (L1.at ?_))))))))
 dsimp only
 rw[if_neg (show¬((onTheHeap (Value.ref C)&&Value.builtin "BaseException.__getattribute__"==Value.builtin "object.__getattribute__")=true) by
   rw[show(Value.builtin "BaseException.__getattribute__"==Value.builtin "object.__getattribute__")=false by decide+kernel,Bool.and_false];exact Bool.false_ne_true)]
 unfold getAttrByItsOwn
 refine wpAny_bind (m:=hookBefore (.ref C)) (L2.at ?_)
 refine wpAny_bind (wpAny_attempt (wpAny_holding ?_))
 unfold callGetattribute
 rw[if_neg (by decide)]
 unfold boundAndCalled
 rw[hb]
 refine wpAny_bind (wpAny_pure ?_)
 refine wpAny_call (codeAny_call_builtin PySem.F.attr_ValueError.ga.plain PySem.F.entry_bexc_ga ?_)
 have chk:∀{A':Around} {Q':Unit ->Shared ->Prop} {E':Value ->Shared ->Prop},Q' () ⟨hp,g,d,t+1,os⟩ ->wpAny (model prog w) A' (checkBuiltinCall "BaseException.__getattribute__" ⟨[.ref a,.str "__class__" t],[]⟩) Q' E' ⟨hp,g,d,t+1,os⟩:=by
   intro A' Q' E' hq
   simp only[checkBuiltinCall,hk,hsplit]
   refine wpAny_bind ?_
   refine L3.at ?_
   repeat (first|assumption|wp_step)
 refine chk ?_
 show wpAny _ _ (Builtin.«object.__getattribute__» ⟨[.ref a, .str "__class__" t], []⟩) _ _ _
 unfold Builtin.«object.__getattribute__»
 refine wpAny_bind (wpAny_pure ?_)
 refine wpAny_bind (wpAny_pure ?_)
 refine wpAny_bind (L0.at (wpAny_bind (L4.at ?_)))
 dsimp only
 show wpAny _ _ (holding [Value.builtin "object.__class__"] (call (.builtin "getset_descriptor.__get__") [.builtin "object.__class__",.ref a,.ref C])>>=ret) _ _ _
 refine wpAny_bind (wpAny_holding (wpAny_call (class_get (s:=⟨hp,g,d,t+1,os⟩) X I F.ob (wpAny_pure ?_))))
 exact handed_on rfl (wpAny_pure h)
noncomputable def A2u (X:Cx):Prop:=X.A.handled=none\/∃x o u vs,X.A.handled=some (.ref x)/\X.H₀ x=some (.frz o u)/\o.data= .fields vs/\vs[2]?=some .none
section
variable{X:Cx}{pins:List (Addr×Obj)}{σ:St}{H:Hp}{s:Shared}
theorem Inv.hdA(I:Inv X pins σ H s)(h:A2u X):Hd X.A s.heap:=by
 rcases h with z|⟨x,o,u,vs,z,e,d,n⟩
 . exact .inl z
 exact .inr ⟨x,o,vs,z,(I.hok x _ (I.base.frzs x o u e)).1,d,n⟩
end
section
variable{X:Cx}{tg:Expr}
theorem G2h{es:List Expr}{k:Nat}{t:TGs}{n:Nat}{pos:Pos}(hc:A2u X)(h:PGs X es t)(hn:(assignEach es X.env).length=n:=by rfl)(hst:(assignEach es X.env).findIdx? (·.1)=none:=by rfl):PG X (.Tuple es k pos) (G8b X.K n t):=by
 intro pins s σ H v u Q I r q
 obtain⟨a,xs,ev,hq,hl,q⟩:=q
 subst ev
 cases r
 obtain⟨its,rv,p,hz⟩:=I.tuple hq
 rw[assign_Tuple]
 refine wpAny_bind (wpAny_standAt (C8b (I.hdA hc) p (by rw[hn, <-hl,rv.length];simp) hst fun h' hx=>?_))
 have I1:Inv X pins σ H {s with heap:=h'}:=I.kept (t':=s.toks) fun b o e=>hx b o (Nat.ne_of_lt (Heap.lt_size e)) e
 exact thn (h pins _ σ H xs its Q I1 rv q) fun _ s' z=>z
theorem G2y{K:Frag}{es:List Expr}{k:Nat}{t:TGs}{n:Nat}{pos:Pos}(hK:X.K=K)(hc:A2u X)(h:PGs X es t)(hn:(assignEach es X.env).length=n:=by rfl)(hst:(assignEach es X.env).findIdx? (·.1)=none:=by rfl):PG X (.Tuple es k pos) (G8b K n t):=by
 subst hK
 exact G2h hc h hn hst
end
theorem D0h{prog:Program}{w:World}{A:Around}{s:Shared}{elt target iter:Expr}{scope:Scope}{pos:Pos}{it acc:Value}{env:Env}{R:Result ->Shared ->Prop}(I:Nat ->Shared ->Prop)
   (turn :∀n s,I n s ->wpAny (model prog w) A (pyNext it) (fun r s₁=>match r with
     |none=>R (.ok .next) s₁
     |some v=>wpAny (model prog w) A (letOwnedTupleGo target it v) (fun _ s₀=>wpAny (model prog w) A (assign target env v) (fun _ s₂=>wpAny (model prog w) A (eval elt env) (fun x s₄=>
         wpAny (model prog w) A (call (.builtin "list.append") [acc,x]) (fun _ s₅=>∃m,m<n/\I m s₅) (notedBy (model prog w) A env fun e s'=>R (.error e) s') s₄) (notedBy (model prog w) A env fun e s'=>R (.error e) s') s₂)
         (notedBy (model prog w) A env fun e s'=>R (.error e) s') s₀) (notedBy (model prog w) A env fun e s'=>R (.error e) s') s₁) (notedBy (model prog w) A env fun e s'=>R (.error e) s') s)
   (n:Nat) (h:I n s):codeAny (model prog w) A (.compLoop (.ListComp elt [⟨target,iter,[],0⟩] scope pos) 0 it acc env) R s:=by
 refine codeAny_loop rfl I (fun n s hI=>?_) n h
 show wpAny _ A ((compTurn (.ListComp elt [⟨target,iter,[],0⟩] scope pos) 0 it acc env).onRaise (fun x=>do noteFrame x env;theTreesLotGoes x)) _ _ s
 refine wpAny_noted ?_;rw[compTurn_list1]
 refine wpAny_bind (wpAny_standAt (wpAny_bind (wpAny_mono (turn n s hI) (fun r s₁ h₁=>?_) fun _ _ z=>z)))
 cases r with
 |none=>exact wpAny_pure h₁
 | some v=>
   refine wpAny_bind (wpAny_mono h₁ (fun _ s₀ q₀=>?_) fun _ _ z=>z)
   refine wpAny_bind (wpAny_mono q₀ (fun _ s₂ q₂=>?_) fun _ _ z=>z)
   exact wpAny_bind (wpAny_bind (wpAny_mono q₂ (fun x s₄ q₄=>wpAny_bind (wpAny_mono q₄ (fun _ s₅ q₅=>wpAny_pure (wpAny_pure ⟨rfl,q₅⟩)) fun _ _ z=>z)) fun _ _ z=>z))
section
variable{X:Cx}
theorem D2g{pins:List (Addr×Obj)}{σ:St}{H:Hp}{s:Shared}{C:Addr}{h':Heap}(I:Inv X pins σ H s)(f:A5q X pins H C)(sb:Heap.SameBut C s.heap h'):Inv X pins σ H {s with heap:=h'}:=
 I.turned (t':=s.toks) (fun b o hb e=>(sb.2 b hb).trans e) f.1 f.2.1 f.2.2.2.1 f.2.2.2.2.1 f.2.2.2.2.2
end
section
variable{X:Cx}{a b c:Expr}{ta tb tc:TE}{pos:Pos}
theorem G0:OpR X (binaryOp .Mult) (rI IntMulOk fun i j=> .int (i*j)):=opI fun _ _ _ _ _ _ _ hc q=>mul_int q hc
theorem D6:OpR X (binaryOp .FloorDiv) (rI (fun _ j=>0<j/\j.natAbs.log2<9000) fun i j=> .int (i/j)):=opI fun i j _ _ _ _ _ hc q=>by
 have h1:(0:Int)<j:=hc.1
 exact floordiv_int (by omega) (by rw[Int.fdiv_eq_ediv_of_nonneg i (by omega)];exact q) (.inl (PyProof.noPylong_of_log2 hc.2))
theorem A0r{i:Int}{k:Nat}(h:i.natAbs<2^k)(hk:0<k):i.natAbs.log2<k:=by
 by_cases z:i.natAbs=0
 . rw[z];simpa using hk
 exact(Nat.log2_lt z).mpr h
theorem B4b{i:Int}(h:i.natAbs<2^1000):Builtin.Int.intBits i<=2^20:=by
 unfold Builtin.Int.intBits
 split
 . exact Nat.zero_le _
 have:=A0r h (by decide)
 have e:(2:Nat)^20=1048576:=by decide
 omega
theorem Z5{i j:Int}(h:i.natAbs<2^1000)(h':j.natAbs<2^1000):IntMulOk i j:=IntMulOk.of_bits (B4b h) (B4b h')
inductive TyE(K:Frag)(H:Hp):V ->Value ->Prop where
 |of {x:V} {t:Value} (h:B0f K H x t):TyE K H x t
 |exc {a C t:Addr} {T:Value} {u:HO} (e:H a=some (.frz (Z0 (.ref C) t none T) u)) (k:C1b K C):TyE K H (.ref a) (.ref C)
 |excD {a C t:Addr} {T:Value} {d:Addr} {u:HO} {fs:List (Str×V)} (e:H a=some (.frz (Z0 (.ref C) t (some d) T) u)) (hd:H d=some (.xd fs)) (k:C1b K C):TyE K H (.ref a) (.ref C)
 |tupK {a:Addr} {o:Obj} (l:K.lookup a=some o) (c:o.cls= .type "tuple"):TyE K H (.ref a) (.type "tuple")
theorem C1s{pins:List (Addr×Obj)}{σ:St}{H:Hp}{s:Shared}{A:Around}{E:Value ->Shared ->Prop}{Q:Value ->Shared ->Prop}{c:Value}{b:Bool}{x:V}{u t:Value}(I:Inv X pins σ H s)(rx:U7 x u)(ty:TyE X.K H x t)
   (e:kitOne X.K t c=some b) (h:∀tk,Q (.bool b) {s with toks:=tk}):wpAny (model X.prog X.w) A (call (.builtin "isinstance") [u,c]) Q E s:=by
 cases ty with
 |of h'=>exact C7q I rx h' e h
 | exc ea k=>
   cases rx
   rename_i a C t0 T u0
   have o1:s.heap.get? a=some (Z0 (.ref C) t0 none T):=(I.hok a _ ea).1
   refine kia_one (H:=fun h=>PySem.W.InstAt h a (Z0 (.ref C) t0 none T) C none) ?_ I.kIn ⟨o1,rfl,rfl,trivial⟩ e (fun z=>nomatch z) h
   refine⟨fun M h _ J=>J.type,fun M h K _=>A4v K k.cl,fun h tp dd its n sl K htp=>?_,fun K J q=>A5v k K J q⟩
   refine Bool.eq_false_iff.mpr fun q=>?_
   have e:C=tp:=Value.ref.inj (beq_iff_eq.mp q)
   subst e
   have z:=k.cl
   unfold clsIn at z
   split at z
   . rename_i ho
     have y:=(K _ _ ho).symm.trans htp
     cases y
   . cases z
 | tupK l c=>
   cases rx
   exact PySem.W.kia_one PySem.W.kitx_tuple I.kIn ⟨_,I.kIn _ _ l,c⟩ e (fun z=>nomatch z) h
 | excD ea hd k=>
   cases rx
   rename_i a C t0 T d u0 fs
   have o1:s.heap.get? a=some (Z0 (.ref C) t0 (some d) T):=(I.hok a _ ea).1
   obtain⟨mA,nA,_⟩:=(show∃mA,s.heap.Ns1 d mA/\∀f,A3x (fs.lookup f) (mA f) from I.hok d _ hd)
   obtain⟨od,o2,_⟩:=A9g nA
   refine kia_one (H:=fun h=>PySem.W.InstAt h a (Z0 (.ref C) t0 (some d) T) C (some od)) ?_ I.kIn ⟨o1,rfl,rfl,o2⟩ e (fun z=>nomatch z) h
   refine⟨fun M h _ J=>J.type,fun M h K _=>A4v K k.cl,fun h tp dd its n sl K htp=>?_,fun K J q=>A5v k K J q⟩
   refine Bool.eq_false_iff.mpr fun q=>?_
   have e:C=tp:=Value.ref.inj (beq_iff_eq.mp q)
   subst e
   have z:=k.cl
   unfold clsIn at z
   split at z
   . rename_i ho
     have y:=(K _ _ ho).symm.trans htp
     cases y
   . cases z
noncomputable def G3f:V ->Option Value
 | .ty n=>some (.type n)
 | .ref a=>some (.ref a)
 |_=>none
theorem C0y:A3s X (.builtin "isinstance") (fun xs H Q=>∃x c cv t b,xs=[x,c]/\G3f c=some cv/\TyE X.K H x t/\kitOne X.K t cv=some b/\Q (.bl b) H):=by
 intro pins s σ H xs us Q I r h
 obtain⟨x,c,cv,t,b,rfl,hc,ty,e,q⟩:=h
 obtain⟨u,v,rfl,ru,rv⟩:=J1.two r
 have:v=cv:=by
   cases c<;>simp only[G3f] at hc<;>first|(cases hc;exact rv)|cases hc
 subst this
 exact C1s I ru ty e fun tk=>⟨.bl b,H,I.tok tk,rfl,q⟩
mutual
inductive RdD(K:Frag)(H:Hp):V ->PyData ->Prop where
 |non:RdD K H .non .none
 |bl (b:Bool):RdD K H (.bl b) (.bool b)
 |int (i:Int):RdD K H (.int i) (.int i)
 |str (x:Str):RdD K H (.str x) (.str x)
 |tup {a:Addr} {xs:List V} {ds:List PyData} (h:SqT K H a xs) (r:B4n K H xs ds):RdD K H (.ref a) (.tuple ds)
 |lst {a:Addr} {xs:List V} {ds:List PyData} (h:SqL K H a xs) (r:B4n K H xs ds):RdD K H (.ref a) (.list ds)
inductive B4n(K:Frag)(H:Hp):List V ->List PyData ->Prop where
 |nil:B4n K H [] []
 |cons {x:V} {xs:List V} {d:PyData} {ds:List PyData} (h:RdD K H x d) (r:B4n K H xs ds):B4n K H (x::xs) (d::ds)
end
mutual
theorem RdD.reads{pins:List (Addr×Obj)}{σ:St}{H:Hp}{s:Shared}(I:Inv X pins σ H s):∀{x:V} {d:PyData} {u:Value},RdD X.K H x d ->U7 x u ->∃as,Reads s.heap u d as
 |_,_,_,.non,r=>by cases r;exact⟨_,.none⟩
 |_,_,_,.bl b,r=>by cases r;exact⟨_,.bool b⟩
 |_,_,_,.int i,r=>by obtain⟨t,rfl⟩:=r;exact⟨_,.int i t⟩
 |_,_,_,.str x,r=>by obtain⟨t,rfl⟩:=r;exact⟨_,.str x t⟩
 | _,_,_,.tup h q,r=>by
   cases r
   obtain⟨its,rv,⟨o,e,c,n,d⟩,_⟩:=I.tuple h
   obtain⟨as,z⟩:=B4n.reads I q rv
   exact⟨_,reads_tuple_at e c d (by simpa using z)⟩
 | _,_,_,.lst h q,r=>by
   cases r
   obtain⟨its,rv,p,_⟩:=I.list h
   obtain⟨o,e,c,n,d⟩:=p.isList
   obtain⟨as,z⟩:=B4n.reads I q rv
   exact⟨_,reads_list_at e c d (by simpa using z)⟩
theorem B4n.reads{pins:List (Addr×Obj)}{σ:St}{H:Hp}{s:Shared}(I:Inv X pins σ H s):∀{xs:List V} {ds:List PyData} {us:List Value},B4n X.K H xs ds ->J1 xs us ->∃as,ReadsAll s.heap us ds as
 |_,_,_,.nil,r=>by cases r;exact⟨_,.nil⟩
 | _,_,_,.cons h q,r=>by
   cases r with
   | cons r1 r2=>
     obtain⟨as,z⟩:=RdD.reads I h r1
     obtain⟨bs,y⟩:=B4n.reads I q r2
     exact⟨_,.cons z y⟩
end
noncomputable def G7d (K:Frag) (n:Bool):R2:=fun x y H Q=>∃d e,RdD K H x d/\RdD K H y e/\SeqAt.shaped d=true/\SeqAt.shaped e=true/\Q (.bl (if n then !PyData.eqv d e else PyData.eqv d e)) H
theorem C1m(hu:X.A.units+64<cLine):OpR X (compareOp .Eq) (G7d X.K false):=by
 intro pins s σ H x y v u Q I rx ry q
 obtain⟨d,e,hx,hy,sd,se,q⟩:=q
 obtain⟨as,z⟩:=hx.reads I rx
 obtain⟨bs,z'⟩:=hy.reads I ry
 exact eq_dataH z z' sd se hu ⟨.bl (PyData.eqv d e),H,I,rfl,q⟩
theorem B7w(hu:X.A.units+64<cLine):OpR X (compareOp .NotEq) (G7d X.K true):=by
 intro pins s σ H x y v u Q I rx ry q
 obtain⟨d,e,hx,hy,sd,se,q⟩:=q
 obtain⟨as,z⟩:=hx.reads I rx
 obtain⟨bs,z'⟩:=hy.reads I ry
 exact ne_dataH z z' sd se hu ⟨.bl (!PyData.eqv d e),H,I,rfl,q⟩
theorem D3q(hc:X.A.handled=none):A3s X (.builtin "any") (fun xs H Q=>∃(l:Addr) (bs:List Bool),xs=[.ref l]/\SqL X.K H l (bs.map V.bl)/\Q (.bl (bs.any id)) H):=by
 intro pins s σ H xs us Q I r h
 obtain⟨l,bs,rfl,hl,q⟩:=h
 obtain⟨u,rfl,ru⟩:=J1.one r
 cases ru
 obtain⟨its,rv,p,hz⟩:=I.list hl
 obtain⟨o,e,_⟩:=id p.isList
 have hlt:l<s.heap.objs.size:=Heap.lt_size e
 have hlen:its.length=bs.length:=by rw[<-rv.length,List.length_map]
 refine call_any_walk (wpAny_pyIter_list p.isList ?_)
 refine⟨s.heap.objs.size,[s.heap.objs.size,l],[s.heap.objs.size],its.toArray.size,_,_,fun i=>(bs[i]?).getD false,rfl,Walks.list (A:=X.A.in1) hc _ l (Nat.ne_of_lt hlt) its.toArray,⟨⟨_,Heap.get?_push_size _ rfl,rfl,rfl⟩,p.isList.push _⟩,fun i v s' Q' E' hP hQ=>?_,fun h' tk hk=>?_⟩
 . have hP:its[i]?=some v:=by simpa using hP
   have hi:i<bs.length:=by rw[<-hlen];exact(List.getElem?_eq_some_iff.mp hP).1
   obtain⟨u',hu',ru'⟩:=rv.get (i:=i) (x:=V.bl bs[i]) (by simp[hi])
   rw[hP] at hu'
   cases hu'
   cases ru'
   have z:(bs[i]?).getD false=bs[i]:=by simp[hi]
   dsimp only at hQ
   rw[z] at hQ
   exact wpAny_truthy_bool hQ
 have z:((List.range its.toArray.size).any fun i=>(bs[i]?).getD false)=bs.any id:=by
   rw[List.size_toArray,hlen]
   exact LSm.range_any bs
 rw[z]
 exact⟨.bl (bs.any id),H,I.kept fun b x e=>hk b x (fun hm=>by rw[List.mem_singleton.mp hm] at e;exact Nat.lt_irrefl _ (Heap.lt_size e)) (Heap.get?_push_of_some _ e),rfl,q⟩
inductive C1d(X:Cx):Expr ->TE ->Prop where
 |lit {x:Str} {j:Nat} {pos:Pos}:C1d X (.Constant (.str x) j pos) (tC (.str x))
 |int {v:Expr} {tv:TE} {pos:Pos} (h:PE X v tv):C1d X (.FormattedValue v (-1) none pos) (fun σ H Q=>tv σ H fun y H1=>∃i,y= .int i/\i.natAbs.log2<1920/\Q (.str (toString i)) H1)
theorem C1d.pe{e:Expr}{t:TE}(h:C1d X e t):PE X e t:=by
 cases h with
 |lit=>exact C5
 | int h=>
   intro pins s σ H Q I q
   refine FormattedValue_plain (thn (h pins s σ H _ I q) fun u s1 hh_=>?_)
   obtain⟨y,H1,I1,r,i,e,l,q⟩:=hh_
   subst e
   obtain⟨t,rfl⟩:=r
   exact formatField_int_small l ⟨.str (toString i),H1,I1.tok _,⟨_,rfl⟩,q⟩
inductive B0e(X:Cx):List Expr ->(Str ->TE) ->Prop where
 |nil:B0e X [] (fun out _ H Q=>out.length<=sizeLine/\Q (.str out) H)
 |cons {e:Expr} {es:List Expr} {t:TE} {r:Str ->TE} (h:C1d X e t) (hr:B0e X es r):B0e X (e::es) (fun out σ H Q=>t σ H fun x H1=>∃y,x= .str y/\(out++y).length<=sizeLine/\r (out++y) σ H1 Q)
theorem B0e.run{es:List Expr}{t:Str ->TE}(h:B0e X es t):∀(out:Str) (pins:List (Addr×Obj)) (s:Shared) (σ:St) (H:Hp) (Q:VK),Inv X pins σ H s ->t out σ H Q ->
   wpAny (model X.prog X.w) X.A (joinParts out (evalEach es X.env)) (EP X pins σ Q) X.xe s:=by
 induction h with
 | nil=>
   intro out pins s σ H Q I q
   exact joinParts_nil ⟨.str out,H,I.tok _,⟨_,rfl⟩,q.2⟩ q.1
 | @cons e es t r h hr ih=>
   intro out pins s σ H Q I q
   show wpAny _ _ (joinParts out (eval e X.env::evalEach es X.env)) _ _ _
   refine joinParts_cons (thn (h.pe pins s σ H _ I q) fun u s1 hh_=>?_)
   obtain⟨x,H1,I1,rx,y,ey,z,q⟩:=hh_
   subst ey
   obtain⟨t',rfl⟩:=rx
   exact⟨z,ih _ pins s1 σ H1 Q I1 q⟩
theorem C5s{e1 e2:Expr}{es:List Expr}{t:Str ->TE}{pos:Pos}(h:B0e X (e1::e2::es) t):PE X (.JoinedStr (e1::e2::es) pos) (t Str.empty):=by
 intro pins s σ H Q I q
 exact JoinedStr_many (h.run _ pins s σ H Q I q)
end
section
variable{P:Program}{w:World}{K:Frag}{mg:Str ->Option Value}{base:Heap}
end
section
variable{X:Cx}{k:Nat}{f:Addr}{fd:FuncData}{ps:List Str}{sp:Sp}{x:Str}{p pos:Pos}{e:Expr}{es:List Expr}{t:TA}
end
theorem Inv.big{X:Cx}{pins:List (Addr×Obj)}{σ:St}{H:Hp}{s:Shared}(I:Inv X pins σ H s):sysModules<s.heap.objs.size:=by
 have h:mainGlobals<s.heap.objs.size:=(I.mod.glob.keeps I.bk).lt
 exact Nat.lt_trans (by decide) h
theorem D3x{P:Program}{w:World}{H:Hp}(h:Heap)(hb:sysModules<h.objs.size):Y4 P w H (h.push {cls:= .type "dict",data:= .dict #[]}) h.objs.size (.dK []):=
 ⟨Nat.zero_le _,beq_eq_false_iff_ne.mpr (Ne.symm (Nat.ne_of_lt hb)),[],.nil,Heap.DictOf.new h⟩
noncomputable abbrev EKF:EK:=fun _ _ _ _=>False
theorem Y0{X:Cx}:U0 X EKF:=fun _ _ _ _ _ _ _ _ _ _ h=>h.elim
structure Def(K:Frag)(mg:Str ->Option Value)(x:Str)(ps:List Str)(st:Stmt)(f:Addr)(fd:FuncData):Prop where
 F:Fun K x x st f fd
 g:mg x=some (.ref f)
 b:Binds K fd ps []
theorem A7n{K:Frag}{h:Heap}{mg:Str ->Option Value}{x:Str}{ps:List Str}{st:Stmt}{f:Addr}{oc:Value}{od an:Option Addr}{osl:Array (Option Value)}{kV doc pm cdv ct:Value}(X:K.In h)(G:h.Ns mainGlobals mg)
   (a:nsIn K mainGlobals x=some (some (.ref f))) (l:K.lookup f=some ⟨oc,od,.func (fnOf x x (J9 st) (J0 st) (A7 st) .none kV doc pm an cdv ct),osl⟩) (c:codeIn K cdv x=true) (k:keepIn K (.ref f)=true)
   (hb:∀(kV doc pm:Value) (an:Option Addr) (cdv ct:Value) (us:List Value),us.length=ps.length ->bindArgs (fnOf x x (J9 st) (J0 st) (A7 st) .none kV doc pm an cdv ct) ⟨us,[]⟩=pure (ps.zip us)):
   Def K mg x ps st f (fnOf x x (J9 st) (J0 st) (A7 st) .none kV doc pm an cdv ct):=
 ⟨A3g (st:=st) l c k,mg_of X G a,(A3g (st:=st) l c k).binds hb⟩
theorem U5{c A B:Prop} [Decidable c] (h:¬c) (b:B):if decide c=true then A else B:=by rw[decide_eq_false h];exact U6 b
theorem A1f{c A B:Prop} [Decidable c] (h:c) (a:A):if decide c=true then A else B:=by rw[decide_eq_true h];exact Y3 a
theorem G8{c A B:Prop} [Decidable c] (a:c ->A) (b:¬c ->B):if decide c=true then A else B:=by
 by_cases h:c
 . exact A1f h (a h)
 exact U5 h (b h)
noncomputable def J0z (t:TS):TS:=fun D σ H=>∃J:St ->Hp ->Prop,t {D with nx:=J} σ H/\∀σ' H',J σ' H' ->D.nx σ' H'
theorem B3{X:Cx}{st:Stmt}{t:TS}(h:PS X st t):PS X st (J0z t):=by
 intro pins s σ H D I q
 obtain⟨J,q,k⟩:=q
 refine thn (h pins s σ H _ I q) fun f s' z=>?_
 cases f with
 |next=>obtain⟨σ',H',I',y⟩:=z;exact⟨σ',H',I',k _ _ y⟩
 |brk=>exact z
 |cont=>exact z
 |ret u=>exact z
theorem B5.upd{H:Hp}{p:Addr}{o:HO}(h:H p=none):B5 H (L2.upd H p o):=fun b u e=>by rw[D5 (C9 e h)];exact e
theorem C7{n:Nat}(h:n<=1000):n<=sizeLine:=Nat.le_of_lt (Y8 h)
section
variable{X:Cx}{k j:Nat}{f:Addr}{fd:FuncData}{ps:List Str}{sp:Sp}{EH:EK}{x:Str}{st:Stmt}{p pos:Pos}{e:Expr}{es:List Expr}{t:TA}
theorem C4(D:Def X.K X.mg x ps st f fd)(F:A8 X.prog X.w X.K X.mg X.base (CX1 X.prog X.w) j f fd ps sp)(hr:A0j k X.A)(hx:U0 X EH)(ha:PA X (e::es) t)(hj:j<=k:=by decide)(hg:Gl X x:=by rfl)(hex:X.ex=[]:=by rfl)(hdb:(x==("__debug__":Str))=false:=by decide)
   (he:starEach (e::es) X.env=(false,eval e X.env)::starEach es X.env:=by rfl) (hpl:(backTo pos (starEach es X.env)).any (·.1)=false:=by rfl):PE X (.Call (.Name x p) (e::es) [] pos) (B2r sp [] EH t):=
 C9y (F.mono hj) hr hg D.g D.F.kp D.b .nil hx ha hex hdb he hpl
theorem A9k(D:Def X.K X.mg x ps st f fd)(F:A8 X.prog X.w X.K X.mg X.base (CX1 X.prog X.w) j f fd ps sp)(hr:A0j k X.A)(hx:U0 X EH)(hj:j<=k:=by decide)(hg:Gl X x:=by rfl)(hex:X.ex=[]:=by rfl)(hdb:(x==("__debug__":Str))=false:=by decide):
   PE X (.Call (.Name x p) [] [] pos) (B2r sp [] EH C7a):=
 C6s (F.mono hj) hr hg D.g D.F.kp D.b .nil hx hex hdb
theorem pty{n:Str}{T:String}(hm:X.mg n=none)(hv:bootBuiltins n=some (.type T))(hg:Gl X n:=by rfl)(hn:n≠"__name__":=by decide)(hdb:(n==("__debug__":Str))=false:=by decide):PE X (.Name n pos) (tC (.ty T)):=D9z hg hm hv rfl hn hdb
theorem C2g{n:Str}{C:Addr}(hm:X.mg n=some (.ref C))(hg:Gl X n:=by rfl)(hdb:(n==("__debug__":Str))=false:=by decide):PE X (.Name n pos) (tC (.ref C)):=G2c hg hm rfl hdb
theorem B4v{a b:Expr}{ta tb:TE}(hm:X.mg "isinstance"=none)(ha:PE X a ta)(hb:PE X b tb)(hg:Gl X "isinstance":=by rfl)
   (h1:starEach [a,b] X.env=(false,eval a X.env)::starEach [b] X.env:=by rfl) (h2:starEach [b] X.env=(false,eval b X.env)::starEach [] X.env:=by rfl) (h3:(backTo pos (starEach [b] X.env)).any (·.1)=false:=by rfl):
   PE X (.Call (.Name "isinstance" p) [a,b] [] pos) (tCB (fun xs H Q=>∃x c cv t b,xs=[x,c]/\G3f c=some cv/\TyE X.K H x t/\kitOne X.K t cv=some b/\Q (.bl b) H) (C0f ta (C0f tb C7a))):=
 G7 C0y hg hm boot_isinstance (A0 ha (A0 hb A3 h2) h1) (he:=h1) (hpl:=h3)
theorem G4j{K:Frag}{a b:Expr}{ta tb:TE}(hK:X.K=K)(hm:X.mg "isinstance"=none)(ha:PE X a ta)(hb:PE X b tb)(hg:Gl X "isinstance":=by rfl)
   (h1:starEach [a,b] X.env=(false,eval a X.env)::starEach [b] X.env:=by rfl) (h2:starEach [b] X.env=(false,eval b X.env)::starEach [] X.env:=by rfl) (h3:(backTo pos (starEach [b] X.env)).any (·.1)=false:=by rfl):
   PE X (.Call (.Name "isinstance" p) [a,b] [] pos) (tCB (fun xs H Q=>∃x c cv t b,xs=[x,c]/\G3f c=some cv/\TyE K H x t/\kitOne K t cv=some b/\Q (.bl b) H) (C0f ta (C0f tb C7a))):=by
 subst hK
 exact B4v hm ha hb hg h1 h2 h3
end
section
variable{X:Cx}{k j:Nat}{f:Addr}{fd:FuncData}{ps:List Str}{sp:Sp}{x:Str}{st:Stmt}{p pos:Pos}{e:Expr}{es:List Expr}{t:TA}
theorem G3g{K:Frag}(hK:X.K=K)(hu:X.A.units+64<cLine):OpR X (compareOp .NotEq) (G7d K true):=by subst hK;exact B7w hu
end
structure Mk0(K:Frag)(C:Addr):Prop where
 makes:makesIn K C=true
 init:findIn K (.ref C) "__init__"=some (some (.builtin "object.__init__"))
 kp:keepIn K (.ref C)=true
section
variable{X:Cx}{k j:Nat}{f C:Addr}{fd:FuncData}{ps:List Str}{sp:Sp}{dvs:List V}{ds:List Value}{EH:EK}{x m:Str}{p pos apos:Pos}{e o:Expr}{es:List Expr}{ta:TE}{t:TA}
noncomputable def G7b (C:Addr):TE:=fun _ H Q=>∀x dx,H x=none ->H dx=none ->dx≠x ->Q (.ref x) (upd (upd H dx (.own x)) x (.ins C dx []))
theorem G2d{pins:List (Addr×Obj)}{σ:St}{H:Hp}{s:Shared}{Q:VK}(M:Mk0 X.K C)(I:Inv X pins σ H s)(h:G7b C σ H Q):wpAny (model X.prog X.w) X.A (call (.ref C) []) (EP X pins σ Q) X.xe s:=by
 have hq:=h (s.heap.objs.size+1) s.heap.objs.size (I.hok.fresh (Nat.le_succ _)) (I.hok.fresh (Nat.le_refl _)) (Nat.ne_of_lt (Nat.lt_succ_self _))
 have I2:=Inv.made (C:=C) I
 have Y:=makes_of (M:=model X.prog X.w) I.kIn M.makes
 refine wpAny_call (C9b I.kIn M.makes M.init (fun self=>Looks.of_pure (oi_bind self)) ?_)
 have e2:((s.heap.push emptyDict).push (instObj C s.heap.objs.size)).get? (s.heap.objs.size+1)=some (instObj C s.heap.objs.size):=by
   have:=Heap.get?_push_size (s.heap.push emptyDict) (o:=instObj C s.heap.objs.size) rfl
   rwa[Heap.size_push] at this
 have t1:Looks (model X.prog X.w) ((s.heap.push emptyDict).push (instObj C s.heap.objs.size)) (typeOf (.ref (s.heap.objs.size+1))) (.ref C):=(Looks.ld e2).andThen .now
 have t2:Looks (model X.prog X.w) ((s.heap.push emptyDict).push (instObj C s.heap.objs.size)) (isInstance (.ref (s.heap.objs.size+1)) (.type "object")) true:=t1.andThen (Y.top.keeps fun b o e=>Heap.get?_push_of_some _ (Heap.get?_push_of_some _ e))
 refine codeAny_call_builtin oi_plain entry_oi (@check_slot (model X.prog X.w) _ _ _ "object.__init__" "object" "__init__" (.ref (s.heap.objs.size+1)) [] [] _ oi_kind oi_split t2 (oi_args (.ref (s.heap.objs.size+1))) ?_)
 rw[oi_run]
 exact wpAny_pure (And.intro rfl ⟨V.ref (s.heap.objs.size+1),_,I2,rfl,hq⟩)
theorem A5m(M:Mk0 X.K C)(hg:Gl X x)(hm:X.mg x=some (.ref C))(hdb:(x==("__debug__":Str))=false:=by decide):PE X (.Call (.Name x p) [] [] pos) (G7b C):=by
 intro pins s σ H Q I h
 refine wpAny_Call_Name_kw (A1w I hg hm ?_ hdb)
 exact callWith_K0 I.kIn M.kp (G2d M I h)
noncomputable def D2e (C:Addr) (m:Str) (sp:Sp) (dvs:List V) (EH:EK) (ta:TE) (t:TA):TE:=fun σ H Q=>ta σ H fun x H1=>∃a dx fs,x= .ref a/\H1 a=some (.ins C dx fs)/\fs.lookup m=none/\
 t σ H1 fun vs H2=>sp (x::(vs++dvs)) H2 Q (fun C d H'=>EH C d σ H')
theorem A8c{pl:Sem Bool}(he:PE X o ta)(c:Cls X.K C)(hm:A9f X.K C m f)(F:A8 X.prog X.w X.K X.mg X.base (CX1 X.prog X.w) j f fd ps sp)(hr:A0j k X.A)(hb:Binds X.K fd ps ds)(hd:J1 dvs ds)(hx:U0 X EH)(ha:PA X (e::es) t)
   (hj:j<=k:=by decide) (hex:X.ex=[]:=by rfl)
   (hst:starEach (e::es) X.env=(false,eval e X.env)::starEach es X.env:=by rfl) (hpl:(backTo pos (starEach es X.env)).any (·.1)=false:=by rfl)
   (ht:eval (.Call (.Attribute o m apos) (e::es) [] pos) X.env=(do
     let ov<-eval o X.env
     standAt apos.atName
     let(f,first)<-holding [ov] (getMethod ov m pl)
     callWith pos f first (backTo pos (starEach (e::es) X.env)) (backToKw pos (keywordEach [] X.env))):=by rfl):
   PE X (.Call (.Attribute o m apos) (e::es) [] pos) (D2e C m sp dvs EH ta t):=by
 intro pins s σ H Q I h
 refine methodCall_KW (pl:=pl) (thn (he pins s σ H _ I h) fun u s1 hh_=>?_) ht
 obtain⟨x,H1,I1,rx,a,dx,fs,ex,ea,l,q⟩:=hh_
 subst ex
 obtain rfl:u=Value.ref a:=rx
 refine B3y I1 ea c hm l ?_
 refine callWith_K (first:=[.ref a]) (h₀:=X.base) I.ok.mod.kin hm.kp (thn (ha pos pins s1 σ H1 _ I1 q) fun us s2 ⟨vs,H2,I2,r,q2⟩=>⟨I2.kIn,?_⟩) hst hpl
 exact B1t (us:= .ref a::us) (vs:= .ref a::vs) (F.mono hj) hr hb hd hx hex I2 (.cons rfl r) q2
theorem A0t{pl:Sem Bool}(he:PE X o ta)(c:Cls X.K C)(hm:A9f X.K C m f)(F:A8 X.prog X.w X.K X.mg X.base (CX1 X.prog X.w) j f fd ps sp)(hr:A0j k X.A)(hb:Binds X.K fd ps ds)(hd:J1 dvs ds)(hx:U0 X EH)
   (hj:j<=k:=by decide) (hex:X.ex=[]:=by rfl)
   (ht:eval (.Call (.Attribute o m apos) [] [] pos) X.env=(do
     let ov<-eval o X.env
     standAt apos.atName
     let(f,first)<-holding [ov] (getMethod ov m pl)
     callWith pos f first (backTo pos (starEach [] X.env)) (backToKw pos (keywordEach [] X.env))):=by rfl):
   PE X (.Call (.Attribute o m apos) [] [] pos) (D2e C m sp dvs EH ta C7a):=by
 intro pins s σ H Q I h
 refine methodCall_KW (pl:=pl) (thn (he pins s σ H _ I h) fun u s1 hh_=>?_) ht
 obtain⟨x,H1,I1,rx,a,dx,fs,ex,ea,l,q⟩:=hh_
 subst ex
 obtain rfl:u=Value.ref a:=rx
 refine B3y I1 ea c hm l ?_
 exact callWith_K0 (first:=[.ref a]) I1.kIn hm.kp (B1t (us:=[.ref a]) (vs:=[.ref a]) (F.mono hj) hr hb hd hx hex I1 (.cons rfl .nil) q)
noncomputable def G5y (C:Addr) (sp:Sp) (dvs:List V) (EH:EK) (t:TA):TE:=fun σ H Q=>t σ H fun vs H1=>∀x dx,H1 x=none ->H1 dx=none ->dx≠x ->
 sp (.ref x::(vs++dvs)) (upd (upd H1 dx (.own x)) x (.ins C dx [])) (fun v H2=>v= .non/\Q (.ref x) H2) (fun C d H'=>EH C d σ H')
theorem C6v{pins:List (Addr×Obj)}{σ:St}{H:Hp}{s:Shared}{Q:VK}{us:List Value}{vs:List V}(M:Mk X.K C f)(F:A8 X.prog X.w X.K X.mg X.base (CX1 X.prog X.w) k f fd ps sp)(hr:A0j (k+1) X.A)(hb:Binds X.K fd ps ds)(hd:J1 dvs ds)
   (hx:U0 X EH) (hex:X.ex=[]) (I:Inv X pins σ H s) (r:J1 vs us)
   (h:∀x dx,H x=none ->H dx=none ->dx≠x ->sp (.ref x::(vs++dvs)) (upd (upd H dx (.own x)) x (.ins C dx [])) (fun v H2=>v= .non/\Q (.ref x) H2) (fun C d H'=>EH C d σ H')):
   wpAny (model X.prog X.w) X.A (call (.ref C) us) (EP X pins σ Q) X.xe s:=by
 have hq:=h (s.heap.objs.size+1) s.heap.objs.size (I.hok.fresh (Nat.le_succ _)) (I.hok.fresh (Nat.le_refl _)) (Nat.ne_of_lt (Nat.lt_succ_self _))
 have I2:=Inv.made (C:=C) I
 have r2:J1 (V.ref (s.heap.objs.size+1)::(vs++dvs)) (Value.ref (s.heap.objs.size+1)::(us++ds)):= .cons rfl (r.append hd)
 have hl:(Value.ref (s.heap.objs.size+1)::us++ds).length=ps.length:=by
   have e:=r2.length
   rw[F.len _ _ _ _ hq] at e
   exact e.symm
 refine wpAny_call (C0q (f:=f) I.kIn M.makes M.init (beq_iff_eq.mp M.fn) (codeAny_mono (F.run _ X.stack _ _ ⟨Value.ref (s.heap.objs.size+1)::us,[]⟩ (Value.ref (s.heap.objs.size+1)::(us++ds)) _ _ _ (hr.make C us [])
   (I2.env0.make C us []) (hb _ (Value.ref (s.heap.objs.size+1)::us) I2.kIn hl) r2 hq) fun r s' hq'=>?_))
 cases r with
 |error e=>exact J0q hx hex I2 hq'
 | ok fl=>
   cases fl with
   | ret u=>
     obtain⟨v,H',I3,rv,ev,q3⟩:=I2.after hq'
     subst ev
     exact⟨rv,⟨V.ref (s.heap.objs.size+1),H',I3,rfl,q3⟩⟩
   |next=>exact False.elim hq'
   |brk=>exact False.elim hq'
   |cont=>exact False.elim hq'
theorem A3n(M:Mk X.K C f)(F:A8 X.prog X.w X.K X.mg X.base (CX1 X.prog X.w) j f fd ps sp)(hr:A0j k X.A)(hm:X.mg x=some (.ref C))(hb:Binds X.K fd ps ds)(hd:J1 dvs ds)(hx:U0 X EH)
   (ha:PA X (e::es) t) (hj:j+1<=k:=by decide) (hg:Gl X x:=by rfl) (hex:X.ex=[]:=by rfl) (hdb:(x==("__debug__":Str))=false:=by decide) (he:starEach (e::es) X.env=(false,eval e X.env)::starEach es X.env:=by rfl) (hpl:(backTo pos (starEach es X.env)).any (·.1)=false:=by rfl):
   PE X (.Call (.Name x p) (e::es) [] pos) (G5y C sp dvs EH t):=by
 intro pins s σ H Q I h
 refine wpAny_Call_Name_kw (A1w I hg hm ?_ hdb)
 refine callWith_K (h₀:=X.base) I.ok.mod.kin M.kp (thn (ha pos pins s σ H _ I h) fun us s1 ⟨vs,H1,I1,r,q⟩=>⟨I1.kIn,?_⟩) he hpl
 exact C6v M F (hr.mono hj) hb hd hx hex I1 r q
end
section
variable{X:Cx}
end
structure C9m(K:Frag)(x qual:Str)(st:Stmt)(dV:Value)(f:Addr)(fd:FuncData):Prop where
 ex:∃(oc:Value) (od:Option Addr) (kV doc pm:Value) (an:Option Addr) (cdv ct:Value) (osl:Array (Option Value)),
   fd=fnOf x qual (J9 st) (J0 st) (A7 st) dV kV doc pm an cdv ct/\K.lookup f=some ⟨oc,od,.func fd,osl⟩/\codeIn K cdv qual=true
 kp:keepIn K (.ref f)=true
section
variable{P:Program}{w:World}{K:Frag}{mg:Str ->Option Value}{base:Heap}
theorem C9m.okE{x qual:Str}{st:Stmt}{dV:Value}{f:Addr}{fd:FuncData}{N ps:List Str}{k:Nat}{sp:Sp}(F:C9m K x qual st dV f fd)(S:B7 N ps (A7 st))(len:∀vs H Q E,sp vs H Q E ->vs.length=ps.length)
   (hbody:∀(X:Cx) (cdv:Value) (A:Around) (outer:List Env) (s:Shared) (H:Hp) (vs:List V) (Q:VK) (E:XK),X=A1j (CX1 P w) P w K mg base N qual (A7 st) f cdv A outer s H E ->A0j k X.A ->U0 X (fun C dd _ H'=>E C dd H') ->sp vs H Q E ->
     ∃t,PSs (A1j (CX1 P w) P w K mg base N qual (A7 st) f cdv A outer s H E) (J0 st) t/\t {nx:=fun _ H'=>Q .non H',rt:=Q} (A6p N vs) H):A8 P w K mg base (CX1 P w) (k+1) f fd ps sp:=by
 obtain⟨oc,od,kV,doc,pm,an,cdv,ct,osl,rfl,lk,hc⟩:=F.ex
 exact D3c lk hc S len fun A outer s H vs Q E hr h=>hbody _ cdv A outer s H vs Q E rfl hr B3g h
theorem B7r{x qual:Str}{st:Stmt}{dV:Value}{f:Addr}{oc:Value}{od an:Option Addr}{osl:Array (Option Value)}{kV doc pm cdv ct:Value}(l:K.lookup f=some ⟨oc,od,.func (fnOf x qual (J9 st) (J0 st) (A7 st) dV kV doc pm an cdv ct),osl⟩)
   (c:codeIn K cdv qual=true) (k:keepIn K (.ref f)=true):C9m K x qual st dV f (fnOf x qual (J9 st) (J0 st) (A7 st) dV kV doc pm an cdv ct):=⟨⟨oc,od,kV,doc,pm,an,cdv,ct,osl,rfl,l,c⟩,k⟩
theorem B3d{fd:FuncData}{ps:List Str}{ds:List Value}{T:Addr}{o:Obj}{items:Array Value}{n:Nat}(hd:fd.defaults= .ref T)(ho:K.lookup T=some o)(hs:o.data= .seq items n)
   (h:∀us:List Value,(us++ds).length=ps.length ->∃k,bindArgs fd ⟨us,[]⟩=seqItems? fd.defaults>>=k/\k (some items)=pure (ps.zip (us++ds))):Binds K fd ps ds:=fun s us X hl=>by
 obtain⟨k,h1,h2⟩:=h us hl
 exact binds_K X hd ho hs h1 h2
end
section
variable{X:Cx}{k j:Nat}{f C:Addr}{fd:FuncData}{ps ks:List Str}{sp:Sp}{EH:EK}{x m:Str}{p pos apos:Pos}{e o:Expr}{es:List Expr}{kws:List Keyword}{ta:TE}{t tk:TA}{g:List Value ->List Value ->List Value}{gV:List V ->List V ->List V}
end
section
variable{X:Cx}{K:Frag}{e:Expr}{f:Str}{pos:Pos}{ta:TE}
theorem A1g(h:X.K=K):IxR X (J1x K):=by subst h;exact D8
theorem G1v(h:X.K=K)(he:PE X e ta)(hb:attributeBase e f X.env (eval e X.env)=eval e X.env):PE X (.Attribute e f pos) (J2q K ta f):=by subst h;exact D3 he hb
theorem A2q(h:X.K=K):OpR X (compareOp .In) (rIn K false):=by subst h;exact A2j
end
end L2
namespace TR
open PySem L2 PySem.W PyProof.Rows
structure Own(mg:Str ->Option Value):Prop where
 isi:mg "isinstance"=none
 int_:mg "int"=none
 bool_:mg "bool"=none
 str_:mg "str"=none
 list_:mg "list"=none
 tuple_:mg "tuple"=none
 dict_:mg "dict"=none
 len_:mg "len"=none
 range_:mg "range"=none
 min_:mg "min"=none
 max_:mg "max"=none
 abs_:mg "abs"=none
 any_:mg "any"=none
 all_:mg "all"=none
 sum_:mg "sum"=none
 repr_:mg "repr"=none
 enumerate_:mg "enumerate"=none
 reversed_:mg "reversed"=none
 zip_:mg "zip"=none
 sorted_:mg "sorted"=none
 divmod_:mg "divmod"=none
 set_:mg "set"=none
 ValueError_:mg "ValueError"=none
structure Kit(K:Frag):Prop where
 int_int:kitOne K (.type "int") (.type "int")=some true
 int_bool:kitOne K (.type "int") (.type "bool")=some false
 int_str:kitOne K (.type "int") (.type "str")=some false
 int_list:kitOne K (.type "int") (.type "list")=some false
 int_tuple:kitOne K (.type "int") (.type "tuple")=some false
 int_dict:kitOne K (.type "int") (.type "dict")=some false
 bool_int:kitOne K (.type "bool") (.type "int")=some true
 bool_bool:kitOne K (.type "bool") (.type "bool")=some true
 bool_str:kitOne K (.type "bool") (.type "str")=some false
 bool_list:kitOne K (.type "bool") (.type "list")=some false
 bool_tuple:kitOne K (.type "bool") (.type "tuple")=some false
 bool_dict:kitOne K (.type "bool") (.type "dict")=some false
 str_int:kitOne K (.type "str") (.type "int")=some false
 str_bool:kitOne K (.type "str") (.type "bool")=some false
 str_str:kitOne K (.type "str") (.type "str")=some true
 str_list:kitOne K (.type "str") (.type "list")=some false
 str_tuple:kitOne K (.type "str") (.type "tuple")=some false
 str_dict:kitOne K (.type "str") (.type "dict")=some false
 list_int:kitOne K (.type "list") (.type "int")=some false
 list_bool:kitOne K (.type "list") (.type "bool")=some false
 list_str:kitOne K (.type "list") (.type "str")=some false
 list_list:kitOne K (.type "list") (.type "list")=some true
 list_tuple:kitOne K (.type "list") (.type "tuple")=some false
 list_dict:kitOne K (.type "list") (.type "dict")=some false
 tuple_int:kitOne K (.type "tuple") (.type "int")=some false
 tuple_bool:kitOne K (.type "tuple") (.type "bool")=some false
 tuple_str:kitOne K (.type "tuple") (.type "str")=some false
 tuple_list:kitOne K (.type "tuple") (.type "list")=some false
 tuple_tuple:kitOne K (.type "tuple") (.type "tuple")=some true
 tuple_dict:kitOne K (.type "tuple") (.type "dict")=some false
 dict_int:kitOne K (.type "dict") (.type "int")=some false
 dict_bool:kitOne K (.type "dict") (.type "bool")=some false
 dict_str:kitOne K (.type "dict") (.type "str")=some false
 dict_list:kitOne K (.type "dict") (.type "list")=some false
 dict_tuple:kitOne K (.type "dict") (.type "tuple")=some false
 dict_dict:kitOne K (.type "dict") (.type "dict")=some true
 NoneType_int:kitOne K (.type "NoneType") (.type "int")=some false
 NoneType_bool:kitOne K (.type "NoneType") (.type "bool")=some false
 NoneType_str:kitOne K (.type "NoneType") (.type "str")=some false
 NoneType_list:kitOne K (.type "NoneType") (.type "list")=some false
 NoneType_tuple:kitOne K (.type "NoneType") (.type "tuple")=some false
 NoneType_dict:kitOne K (.type "NoneType") (.type "dict")=some false
theorem scK{N P:List Str}{sc:Scope}(a:sc.kind= .function:=by rfl)(b:sc.isCoroutine=false:=by rfl)(c:sc.isGenerator=false:=by rfl)(d:N.Nodup:=by decide+kernel)(e:N.take P.length=P:=by rfl)(f:∀x∈P,sc.names.lookup x=some .local\/sc.names.lookup x=some .cell:=by decide+kernel)(g:∀y∈sc.names,y.2≠ .free:=by decide+kernel):B7 N P sc:=⟨a,b,c,d,e,f,g⟩
theorem G4k{K:Frag}{H:Hp}(i:Int):TyE K H (.int i) (.type "int"):= .of (.int i)
theorem D0u{K:Frag}{H:Hp}(z:Str):TyE K H (.str z) (.type "str"):= .of (.str z)
theorem C0p{K:Frag}{H:Hp}{a:Addr}{xs:List V}(h:H a=some (.lst xs)):TyE K H (.ref a) (.type "list"):= .of (.lst h)
theorem G4n{K:Frag}{H:Hp}{a:Addr}{xs:List V}(h:H a=some (.tup xs)):TyE K H (.ref a) (.type "tuple"):= .of (.tup h)
noncomputable def A6t (lo hi:Int) (v:V):Prop:=∃i,v= .int i/\lo<=i/\i<=hi
noncomputable def B4s (K:Frag) (H:Hp) (lo hi:Int) (v:V):Prop:=∃t b1 b2,TyE K H v t/\kitOne K t (.type "int")=some b1/\kitOne K t (.type "bool")=some b2/\((b1&& !b2)=false\/∃i,v= .int i/\(i<lo\/hi<i))
section
variable{K:Frag}{H:Hp}{lo hi:Int}
end
noncomputable def Exc (p:Addr) (H H':Hp):Prop:=∀b o,H b=some o ->b≠p ->H' b=some o
theorem Exc.refl(p:Addr)(H:Hp):Exc p H H:=fun _ _ h _=>h
theorem Exc.trans{p:Addr}{H H1 H2:Hp}(a:Exc p H H1)(b:Exc p H1 H2):Exc p H H2:=fun c o h n=>b c o (a c o h n) n
theorem Exc.upd{p:Addr}{H:Hp}{o:HO}:Exc p H (L2.upd H p o):=fun b u e n=>by rw[D5 n];exact e
theorem Exc.of{p:Addr}{H H':Hp}(s:B5 H H'):Exc p H H':=fun b o h _=>s b o h
noncomputable def Has (P:Program) (w:World) (K:Frag) (mg:Str ->Option Value) (base:Heap) (C:Addr) (m:Str) (k:Nat) (ps:List Str) (sp:Sp):Prop:=∃f fd,A9f K C m f/\A8 P w K mg base (CX1 P w) k f fd ps sp/\Binds K fd ps []
noncomputable def C9f (z:Str) (b:Bool):List Str:=if b then [z] else []
noncomputable def B4p (H:Hp) (a C:Addr) (d:Option Addr):Prop:=∃t T u,H a=some (.frz (Z0 (.ref C) t d T) u)/\∀x,d=some x ->∃fs,H x=some (.xd fs)
theorem B4p.ty{K:Frag}{H:Hp}{a C:Addr}{d:Option Addr}(h:B4p H a C d)(k:C1b K C):TyE K H (.ref a) (.ref C):=by
 obtain⟨t,T,u,e,q⟩:=h
 cases d with
 |none=>exact .exc e k
 | some x=>
   obtain⟨fs,z⟩:=q x rfl
   exact .excD e z k
theorem G5x{us:List Value}(h:us.length=2):∃a b,us=[a,b]:=by
 obtain⟨a,t,rfl⟩:=List.exists_cons_of_length_eq_add_one h
 obtain⟨b,t,rfl⟩:=List.exists_cons_of_length_eq_add_one (Nat.succ.inj h)
 exact⟨a,b,by rw[List.eq_nil_of_length_eq_zero (Nat.succ.inj (Nat.succ.inj h))]⟩
theorem G1g{us:List Value}(h:us.length=3):∃a b c,us=[a,b,c]:=by
 obtain⟨a,t,rfl⟩:=List.exists_cons_of_length_eq_add_one h
 obtain⟨b,c,e⟩:=G5x (Nat.succ.inj h)
 exact⟨a,b,c,by rw[e]⟩
theorem J2p{us:List Value}(h:us.length=4):∃a b c d,us=[a,b,c,d]:=by
 obtain⟨a,t,rfl⟩:=List.exists_cons_of_length_eq_add_one h
 obtain⟨b,c,d,e⟩:=G1g (Nat.succ.inj h)
 exact⟨a,b,c,d,by rw[e]⟩
theorem J6h{us:List Value}(h:us.length=5):∃a b c d e,us=[a,b,c,d,e]:=by
 obtain⟨a,t,rfl⟩:=List.exists_cons_of_length_eq_add_one h
 obtain⟨b,c,d,e,z⟩:=J2p (Nat.succ.inj h)
 exact⟨a,b,c,d,e,by rw[z]⟩
theorem C1w{us ds:List Value}{n:Nat}(h:(us++ds).length=n):us.length=n-ds.length:=by rw[List.length_append] at h;omega
end TR
namespace L2
open PySem PySem.Spec PyProof.Rows
section
variable{κ:Type} [DecidableEq κ]
noncomputable def B2n (kvs:List (κ×V)) (k:κ):Option V:=(kvs.find? fun kv=>decide (kv.1=k)).map (·.2)
noncomputable def A3r (kvs:List (κ×V)) (k:κ) (v:V):List (κ×V):=
 if(kvs.any fun kv=>decide (kv.1=k))=true then kvs.map (fun kv=>if kv.1=k then(kv.1,v) else kv) else kvs++ [(k,v)]
theorem B2d{p:κ×V}{r:List (κ×V)}{k:κ}(e:p.1=k):B2n (p::r) k=some p.2:=by simp[B2n,List.find?_cons,e]
theorem B3x{p:κ×V}{r:List (κ×V)}{k:κ}(e:¬p.1=k):B2n (p::r) k=B2n r k:=by simp[B2n,List.find?_cons,e]
theorem C0w(k:κ):∀kvs:List (κ×V),(kvs.any fun kv=>decide (kv.1=k))=(B2n kvs k).isSome
 | []=>rfl
 | p::r=>by
   rw[List.any_cons]
   by_cases e:p.1=k
   . simp only[B2d e,decide_eq_true e,Bool.true_or,Option.isSome_some]
   . rw[B3x e,decide_eq_false e,Bool.false_or];exact C0w k r
theorem A5t(kvs:List (κ×V))(k:κ)(v:V):(A3r kvs k v).length<=kvs.length+1:=by
 unfold A3r
 split
 . rw[List.length_map];omega
 rw[List.length_append,List.length_cons,List.length_nil];omega
theorem A3x.isSome_eq{o:Option V}{u:Option Value}(r:A3x o u):o.isSome=u.isSome:=by
 cases o with
 | none=>cases u with
   |none=>rfl
   |some _=>exact(show False from r).elim
 | some _=>cases u with
   |none=>exact(show False from r).elim
   |some _=>rfl
theorem KV.val{kvs:List (κ×V)}{vs:List (κ×Value)}(r:KV kvs vs)(k:κ):A3x (B2n kvs k) (valueAt vs k):=by
 unfold KV at r
 induction r with
 |nil=>exact True.intro
 | @cons p q ps qs h t ih=>
   obtain⟨h1,h2⟩:=h
   by_cases e:p.1=k
   . have e':q.1=k:=h1.symm.trans e
     have b:valueAt (q::qs) k=some q.2:=by simp[valueAt,List.find?_cons,e']
     rw[B2d e,b];exact h2
   . have e':¬q.1=k:=fun z=>e (h1.trans z)
     have b:valueAt (q::qs) k=valueAt qs k:=by simp[valueAt,List.find?_cons,e']
     rw[B3x e,b];exact ih
theorem KV.any{kvs:List (κ×V)}{vs:List (κ×Value)}(r:KV kvs vs)(k:κ):(kvs.any fun kv=>decide (kv.1=k))=vs.any fun kv=>decide (kv.1=k):=by
 unfold KV at r
 induction r with
 |nil=>rfl
 |cons h t ih=>rw[List.any_cons,List.any_cons,ih,h.1]
theorem KV.repl{kvs:List (κ×V)}{vs:List (κ×Value)}(r:KV kvs vs)(k:κ){y:V}{u:Value}(ry:U7 y u):
   KV (kvs.map fun kv=>if kv.1=k then(kv.1,y) else kv) (vs.map fun kv=>if kv.1=k then(kv.1,u) else kv):=by
 unfold KV at r ⊢
 induction r with
 |nil=>exact .nil
 | @cons p q ps qs h t ih=>
   rw[List.map_cons,List.map_cons]
   refine .cons ?_ ih
   obtain⟨h1,h2⟩:=h
   by_cases e:p.1=k
   . rw[if_pos e,if_pos (h1.symm.trans e)];exact⟨h1,ry⟩
   . rw[if_neg e,if_neg (fun z=>e (h1.trans z))];exact⟨h1,h2⟩
theorem KV.put{kvs:List (κ×V)}{vs:List (κ×Value)}(r:KV kvs vs)(k:κ){y:V}{u:Value}(ry:U7 y u):KV (A3r kvs k y) (stored vs k u):=by
 unfold A3r stored
 rw[r.any k]
 by_cases e:(vs.any fun kv=>decide (kv.1=k))=true
 . rw[if_pos e,if_pos e];exact r.repl k ry
 rw[if_neg e,if_neg e];exact Paired.snoc r ⟨rfl,ry⟩
theorem KV.length{kvs:List (κ×V)}{vs:List (κ×Value)}(r:KV kvs vs):kvs.length=vs.length:=Paired.length r
end
theorem C6c{P:Program}{w:World}{k:Key}{u:Value}(r:U7 (kV k) u):(Z8 P w).is k u=true:=by
 cases k with
 |inl i=>obtain⟨t,e⟩:=(show∃t,u=Value.int i t from r);subst e;exact C0r P w i t
 |inr x=>obtain⟨t,e⟩:=(show∃t,u=Value.str x t from r);subst e;exact C0v P w x t
theorem B5c{P:Program}{w:World}:∀{ks:List Key} {us:List Value},J1 (ks.map kV) us ->ItemsAre (Z8 P w) ks us
 | [],_,r=>by rw[List.map_nil] at r;cases r;exact .nil
 | k::ks,_,r=>by
   rw[List.map_cons] at r
   cases r with
   |cons h t=>exact .cons (C6c h) (B5c t)
noncomputable abbrev KT (H:Hp):List (List Key×V) ->List (List Key×Addr×Value) ->Prop:=Paired fun p q=>p.1=q.1/\H q.2.1=some (.tup (p.1.map kV))/\U7 p.2 q.2.2
theorem KT.val{H:Hp}{kvs:List (List Key×V)}{xs:List (List Key×Addr×Value)}(r:KT H kvs xs)(k:List Key):A3x (B2n kvs k) ((atKey xs k).map (·.2)):=by
 induction r with
 |nil=>exact True.intro
 | @cons p q ps qs h t ih=>
   obtain⟨h1,_,h2⟩:=h
   by_cases e:p.1=k
   . have e':q.1=k:=h1.symm.trans e
     have b:atKey (q::qs) k=some q.2:=by simp[atKey,List.find?_cons,e']
     rw[B2d e,b];exact h2
   . have e':¬q.1=k:=fun z=>e (h1.trans z)
     have b:atKey (q::qs) k=atKey qs k:=by simp[atKey,List.find?_cons,e']
     rw[B3x e,b];exact ih
theorem KT.repl{H:Hp}{kvs:List (List Key×V)}{xs:List (List Key×Addr×Value)}(r:KT H kvs xs)(k:List Key){y:V}{u:Value}(ry:U7 y u):
   KT H (kvs.map fun kv=>if kv.1=k then(kv.1,y) else kv) (xs.map (putAt k u)):=by
 induction r with
 |nil=>exact .nil
 | @cons p q ps qs h t ih=>
   rw[List.map_cons,List.map_cons]
   refine .cons ?_ ih
   obtain⟨h1,h2,h3⟩:=h
   unfold putAt
   by_cases e:p.1=k
   . rw[if_pos e,if_pos (h1.symm.trans e)];exact⟨h1,h2,ry⟩
   . rw[if_neg e,if_neg (fun z=>e (h1.trans z))];exact⟨h1,h2,h3⟩
theorem KT.put{H:Hp}{kvs:List (List Key×V)}{xs:List (List Key×Addr×Value)}(r:KT H kvs xs)(k:List Key){b:Addr}{y:V}{u:Value}(hb:H b=some (.tup (k.map kV)))(ry:U7 y u):
   KT H (A3r kvs k y) (storedH xs k b u):=by
 have e:(kvs.any fun kv=>decide (kv.1=k))=(atKey xs k).isSome:=by
   rw[C0w,(r.val k).isSome_eq,Option.isSome_map]
 unfold A3r storedH
 rw[e]
 by_cases q:(atKey xs k).isSome=true
 . rw[if_pos q,if_pos q];exact r.repl k ry
 rw[if_neg q,if_neg q];exact Paired.snoc r ⟨rfl,hb,ry⟩
theorem KT.keeps{H H':Hp}{kvs:List (List Key×V)}{xs:List (List Key×Addr×Value)}(r:KT H kvs xs)(ht:∀b ys,H b=some (.tup ys) ->H' b=some (.tup ys)):KT H' kvs xs:=
 Paired.mapP r fun _ _ z=>⟨z.1,ht _ _ z.2.1,z.2.2⟩
section
variable{P:Program}{w:World}{H:Hp}{h:Heap}{a:Addr}
theorem G4q{u:HO}(ok:HOk P w H h)(e:Rd H a u):Y4 P w H h a u:=e.ok ok
theorem D1b{kvs:List (Key×V)}(ok:HOk P w H h)(e:Rd H a (.dK kvs)):kvs.length<=sizeLine/\(a==sysModules)=false/\∃vs,KV kvs vs/\h.DictOf (Z8 P w) a vs:=
 show Y4 P w H h a (.dK kvs) from G4q ok e
theorem G4h{kvs:List (Key×V)}(ok:HOk P w H h)(e:H a=some (.dK kvs)):kvs.length<=sizeLine/\(a==sysModules)=false/\∃vs,KV kvs vs/\h.DictOf (Z8 P w) a vs:=D1b ok (.inl e)
theorem C1t{ks:List Key}(ok:HOk P w H h)(e:H a=some (.tup (ks.map kV))):(tupleKind (Z8 P w)).is h ks a:=by
 obtain⟨_,its,r,o,h1,h2,n,h3⟩:=(show Y4 P w H h a (.tup (ks.map kV)) from ok a _ e)
 exact⟨o,its.toArray,n,h1,h2,h3,by simpa using B5c r⟩
theorem D0k{kvs:List (List Key×V)}(ok:HOk P w H h)(e:Rd H a (.dT kvs)):kvs.length<=sizeLine/\(a==sysModules)=false/\
   ∃xs,KT H kvs xs/\h.DictOfH (tupleKind (Z8 P w)) a xs:=by
 obtain⟨z,y,xs,r,o,es,ep,h1,h2,h3,h4,h5⟩:=(show Y4 P w H h a (.dT kvs) from G4q ok e)
 refine⟨z,y,xs,r,o,es,ep,h1,h2,h3,h4,fun x hx=>?_,h5⟩
 have all:∀{l:List (List Key×V)} {m:List (List Key×Addr×Value)},KT H l m ->∀x∈m,(tupleKind (Z8 P w)).is h x.1 x.2.1:=by
   intro l m q
   induction q with
   |nil=>intro x hx;exact nomatch hx
   | @cons p q ps qs hq t ih=>
     intro x hx
     rcases List.mem_cons.mp hx with e|hx
     . subst e
       exact C1t ok (by rw[<-hq.1];exact hq.2.1)
     . exact ih x hx
 exact all r x hx
theorem J2r{kvs:List (List Key×V)}(ok:HOk P w H h)(e:H a=some (.dT kvs)):kvs.length<=sizeLine/\(a==sysModules)=false/\
   ∃xs,KT H kvs xs/\h.DictOfH (tupleKind (Z8 P w)) a xs:=D0k ok (.inl e)
end
noncomputable def B8u (H:Hp) (a:Addr) (y:V) (r:Option V):Prop:=
 (∃kvs k,Rd H a (.dK kvs)/\y=kV k/\r=B2n kvs k)\/∃kvs k b,Rd H a (.dT kvs)/\y= .ref b/\H b=some (.tup (k.map kV))/\r=B2n kvs k
noncomputable def C3h (H:Hp) (a:Addr) (y v:V) (H':Hp):Prop:=
 (∃kvs k,H a=some (.dK kvs)/\y=kV k/\kvs.length<sizeLine/\H'=upd H a (.dK (A3r kvs k v)))\/
 ∃kvs k b,H a=some (.dT kvs)/\y= .ref b/\H b=some (.tup (k.map kV))/\kvs.length<sizeLine/\H'=upd H a (.dT (A3r kvs k v))
theorem B8u.k{H:Hp}{a:Addr}{kvs:List (Key×V)}{k:Key}(e:H a=some (.dK kvs)):B8u H a (kV k) (B2n kvs k):= .inl ⟨kvs,k,.inl e,rfl,rfl⟩
theorem C3h.k{H:Hp}{a:Addr}{kvs:List (Key×V)}{k:Key}{v:V}(e:H a=some (.dK kvs))(hl:kvs.length<sizeLine):C3h H a (kV k) v (upd H a (.dK (A3r kvs k v))):= .inl ⟨kvs,k,e,rfl,hl,rfl⟩
section
variable{X:Cx}{pins:List (Addr×Obj)}{σ:St}{H:Hp}{s:Shared}{a:Addr}{y v:V}{u r:Value}{o:Option V}{A:Around}{E:Value ->Shared ->Prop}
theorem C8c{Q:Value ->Shared ->Prop}(hu:A.units+1<cLine)(I:Inv X pins σ H s)(g:B8u H a y (some v))(ry:U7 y u)(h:∀w' s',Inv X pins σ H s' ->U7 v w' ->Q w' s'):
   wpAny (model X.prog X.w) A (getItem (.ref a) u) Q E s:=by
 rcases g with⟨kvs,k,e,ey,l⟩|⟨kvs,k,b,e,ey,eb,l⟩
 . subst ey
   obtain⟨z,hd,vs,rel,dd⟩:=D1b I.hok e
   obtain⟨w',hw,rw'⟩:=A3x.some_of (v:=v) (o:=valueAt vs k) (by rw[l];exact rel.val k)
   exact wpAny_getItem_of (C6c ry) dd.mapOf hw (h w' _ (I.tok _) rw')
 subst ey
 cases(show u=Value.ref b from ry)
 obtain⟨z,hd,xs,rel,dd⟩:=D0k I.hok e
 obtain⟨w',hw,rw'⟩:=A3x.some_of (v:=v) (o:=(atKey xs k).map (·.2)) (by rw[l];exact rel.val k)
 obtain⟨p,hp,hp2⟩:=Option.map_eq_some_iff.mp hw
 refine wpAny_getItem_heap (tupleKind_room_in1 hu) (C1t I.hok eb) dd hp ?_
 rw[hp2]
 exact h w' _ (I.tok _) rw'
theorem B7h{h':Heap}{t':Nat}{ob:HO}(I:Inv X pins σ H s)(mu:Mut (H a))(hs:Heap.SameBut a s.heap h')(he:∃q,h'.get? a=some q)(new:Y4 X.prog X.w (upd H a ob) h' a ob):
   Inv X pins σ (upd H a ob) {s with heap:=h',toks:=t'}:=
 I.write (x:=a) (e:=a) mu (.inl rfl) (fun b q hb z=>(hs.2 b hb).trans z) he new
theorem D4c{P:Program}{w:World}{H':Hp}{h':Heap}{kvs:List (Key×V)}{vs:List (Key×Value)}(z:kvs.length<=sizeLine)(hd:(a==sysModules)=false)(rel:KV kvs vs)(dd:h'.DictOf (Z8 P w) a vs):
   Y4 P w H' h' a (.dK kvs):=⟨z,hd,vs,rel,dd⟩
theorem C6p{H':Hp}{Q:Unit ->Shared ->Prop}(hu:A.units+1<cLine)(I:Inv X pins σ H s)(g:C3h H a y v H')(ry:U7 y u)(rv:U7 v r)(h:∀s',Inv X pins σ H' s' ->Q () s'):
   wpAny (model X.prog X.w) A (setItem (.ref a) u r) Q E s:=by
 rcases g with⟨kvs,k,e,ey,l,eH⟩|⟨kvs,k,b,e,ey,eb,l,eH⟩
 . subst ey eH
   obtain⟨z,hd,vs,rel,dd⟩:=G4h I.hok e
   have hz:vs.length<=sizeLine:=by rw[<-rel.length];exact z
   have hl:(A3r kvs k v).length<=sizeLine:=by have:=A5t kvs k v;omega
   refine wpAny_setItem_pairs (hsz:=hz) (C6c ry) dd fun h' dd' hs=>h _ ?_
   have he:∃q,h'.get? a=some q:=let⟨q,_,_,hq,_⟩:=dd';⟨q,hq⟩
   exact B7h I (by rw[e];exact True.intro) hs he (D4c hl hd (rel.put k rv) dd')
 subst ey eH
 cases(show u=Value.ref b from ry)
 obtain⟨z,hd,xs,rel,dd⟩:=J2r I.hok e
 have hz:xs.length<=sizeLine:=by rw[<-Paired.length rel];exact z
 have hl:(A3r kvs k v).length<=sizeLine:=by have:=A5t kvs k v;omega
 refine wpAny_setItem_heap (hsz:=hz) (tupleKind_room_in1 hu) (C1t I.hok eb) dd fun h' dd' hs=>h _ ?_
 obtain⟨q,es,ep,hq,h2,h3,h4,_,h5⟩:=dd'
 refine B7h I (by rw[e];exact True.intro) hs ⟨q,hq⟩ ⟨hl,hd,_,(rel.put k eb rv).keeps fun c ys ec=>?_,q,es,ep,hq,h2,h3,h4,h5⟩
 rw[D5 (V7 ec e (fun z=>nomatch z))]
 exact ec
end
section
variable{X:Cx}{pins:List (Addr×Obj)}{σ:St}{H:Hp}{s:Shared}{a:Addr}{kvs:List (Key×V)}{k:Key}{u:Value}{A:Around}{E:Value ->Shared ->Prop}
end
noncomputable def J3c (i:Expr):Prop:=∀ov iv,subscripted i false ov iv=operate [ov,iv] (getItem ov iv)
theorem G0m{prog:Program}{w:World}{A:Around}{E:Value ->Shared ->Prop}{s:Shared}{env:Env}{value slice:Expr}{pos:Pos}{T id:String}{Q:Value ->Shared ->Prop}
   (hl:typeLookup (.type T) "__getitem__"=pure (some (.builtin id))) (hs:J3c slice)
   (h:wpAny (model prog w) A (eval value env) (fun o s₁=>wpAny (model prog w) A (eval slice env) (fun i s₂=>s₂.TypeIs o T/\wpAny (model prog w) A (getItem o i) Q E s₂) E s₁) E s):
   wpAny (model prog w) A (eval (.Subscript value slice pos) env) Q E s:=by
 refine Subscript_ (wpAny_mono h (fun o s₁ h₁=>wpAny_mono h₁ (fun i s₂ h₂=>?_) fun _ _ x=>x) fun _ _ x=>x)
 obtain⟨hT,h₂⟩:=h₂
 unfold subscriptTail
 refine wpAny_bind ?_
 rw[getitemInPython_of_ne hT.not_modules]
 refine wpAny_bind (wpAny_specialOf hT hl ?_)
 have fin:wpAny (model prog w) A (subscripted slice false o i) (fun r s₃=>wpAny (model prog w) A (letTemporaryGo value o r>>=fun _=>pure r) Q E s₃) E s₂:=by
   rw[hs o i]
   exact wpAny_operating (wpAny_mono h₂ (fun r s₃ h₃=>wpAny_bind (wpAny_letTemporaryGo (wpAny_pure h₃))) fun _ _ x=>x)
 first
   |exact wpAny_pure (wpAny_bind fin)
   |exact wpAny_bind (wpAny_pure (wpAny_bind fin))
   |exact wpAny_bind fin
theorem C1a{X:Cx}{pins:List (Addr×Obj)}{σ:St}{H:Hp}{s:Shared}{a:Addr}{y:V}{o:Option V}(I:Inv X pins σ H s)(g:B8u H a y o):s.TypeIs (.ref a) "dict":=by
 rcases g with⟨kvs,k,e,_,_⟩|⟨kvs,k,b,e,_,_,_⟩
 . obtain⟨_,_,vs,_,dd⟩:=D1b I.hok e
   exact dd.typeIs
 obtain⟨_,_,xs,_,dd⟩:=D0k I.hok e
 exact dd.typeIs
noncomputable def J2k (td ty:TE):TE:=fun σ H Q=>td σ H fun x H1=>ty σ H1 fun y H2=>∃a v,x= .ref a/\B8u H2 a y (some v)/\Q v H2
noncomputable def J1m (td ty tv:TE):TS:=fun D σ H=>tv σ H fun v H1=>td σ H1 fun x H2=>ty σ H2 fun y H3=>∃a H4,x= .ref a/\C3h H3 a y v H4/\D.nx σ H4
section
variable{X:Cx}{o i e value:Expr}{pos pos' tpos:Pos}{td ty tv:TE}
theorem A6g(hu:X.A.units+1<cLine)(ho:PE X o td)(hi:PE X i ty)(hs:J3c i):PE X (.Subscript o i pos) (J2k td ty):=by
 intro pins s σ H Q I h
 refine G0m PySem.F.slot_dict_getitem.lookup hs (thn (ho pins s σ H _ I h) fun u s1 ⟨x,H1,I1,rx,q1⟩=>thn (hi pins s1 σ H1 _ I1 q1) fun iv s2 hh_=>?_)
 obtain⟨y,H2,I2,ry,a,v,ex,g,q2⟩:=hh_
 subst ex
 obtain rfl:u=Value.ref a:=rx
 exact⟨C1a I2 g,C8c hu I2 g ry fun w' s3 I3 rw'=>⟨v,H2,I3,rw',q2⟩⟩
theorem B7z(hu:X.A.units+1<cLine)(ho:PE X o td)(hi:PE X i ty)(hv:PE X value tv)(hs:swapsWith value (some (.Subscript o i pos')) pos.line X.env=pure false):
   PS X (.Assign [.Subscript o i pos'] value pos) (J1m td ty tv):=by
 intro pins s σ H D I h
 refine wpAny_Assign_Subscript (thn (hv pins s σ H _ I h) fun r s1 ⟨v,H1,I1,rv,q1⟩=>thn (ho pins s1 σ H1 _ I1 q1) fun u s2 ⟨x,H2,I2,rx,q2⟩=>thn (hi pins s2 σ H2 _ I2 q2) fun iv s3 hh_=>?_) hs
 obtain⟨y,H3,I3,ry,a,H4,ex,g,q3⟩:=hh_
 subst ex
 obtain rfl:u=Value.ref a:=rx
 exact C6p hu I3 g ry rv fun s4 I4=>⟨σ,H4,I4,q3⟩
end
section
variable{X:Cx}{pos:Pos}
end
noncomputable def C2m:List (TE×TE) ->St ->Hp ->(List (V×V) ->Hp ->Prop) ->Prop
 | [],_,H,Q=>Q [] H
 |(tk,tv)::r,σ,H,Q=>tk σ H fun x H1=>tv σ H1 fun y H2=>C2m r σ H2 fun ps H3=>Q ((x,y)::ps) H3
noncomputable abbrev VV:List (V×V) ->List (Value×Value) ->Prop:=Paired fun p q=>U7 p.1 q.1/\U7 p.2 q.2
noncomputable def PPs (X:Cx) (pos:Pos) (keys:List (Option Expr)) (values:List Expr) (trs:List (TE×TE)):Prop:=
 ∀ (pins:List (Addr×Obj)) (s:Shared) (σ:St) (H:Hp) (Q:List (V×V) ->Hp ->Prop),Inv X pins σ H s ->C2m trs σ H Q ->
   wpAny (model X.prog X.w) X.A (evalPairs (pairTrees keys values X.env pos)) (fun vs s'=>∃ps H',Inv X pins σ H' s'/\VV ps vs/\Q ps H') X.xe s
theorem G0s{X:Cx}{pos:Pos}:PPs X pos [] [] []:=fun pins s σ H Q I h=>pairTrees_nil_walk ⟨[],H,I,.nil,h⟩
theorem B9j{X:Cx}{pos:Pos}{k v:Expr}{ks:List (Option Expr)}{vs:List Expr}{tk tv:TE}{trs:List (TE×TE)}(hk:PE X k tk)(hv:PE X v tv)(hr:PPs X pos ks vs trs):
   PPs X pos (some k::ks) (v::vs) ((tk,tv)::trs):=fun pins s σ H Q I h=>
 pairTrees_cons_walk (thn (hk pins s σ H _ I h) fun u s1 ⟨x,H1,I1,rx,q1⟩=>thn (hv pins s1 σ H1 _ I1 q1) fun w2 s2 ⟨y,H2,I2,ry,q2⟩=>
   thn (hr pins s2 σ H2 _ I2 q2) fun ws s3 ⟨ps,H3,I3,rel,q3⟩=>⟨(x,y)::ps,H3,I3,.cons ⟨rx,ry⟩ rel,q3⟩)
noncomputable def A7a (kvs more:List (Key×V)):List (Key×V):=more.foldl (fun acc kv=>A3r acc kv.1 kv.2) kvs
theorem KV.merge:∀{more:List (Key×V)} {rs:List (Key×Value)} {kvs:List (Key×V)} {vs:List (Key×Value)},KV more rs ->KV kvs vs ->KV (A7a kvs more) (merged vs rs):=by
 intro more rs kvs vs r
 unfold KV at r
 induction r generalizing kvs vs with
 |nil=>intro q;exact q
 | @cons p q ps qs h t ih=>
   intro r0
   have e:KV (A3r kvs p.1 p.2) (stored vs q.1 q.2):=by
     have:=r0.put p.1 h.2
     rw[<-h.1];exact this
   exact ih e
theorem A6q:∀(more kvs:List (Key×V)),(A7a kvs more).length<=kvs.length+more.length
 | [],kvs=>by show kvs.length<=kvs.length+0;omega
 | p::r,kvs=>by
   have h1:=A6q r (A3r kvs p.1 p.2)
   have h2:=A5t kvs p.1 p.2
   show(A7a (A3r kvs p.1 p.2) r).length<=_
   rw[List.length_cons];omega
theorem B3q{P:Program}{w:World}:∀{kvs:List (Key×V)} {ws:List (Value×Value)},VV (kvs.map fun kv=>(kV kv.1,kv.2)) ws ->∃rs,Carries (Z8 P w) ws rs/\KV kvs rs
 | [],_,r=>by rw[List.map_nil] at r;cases r;exact⟨[],True.intro,.nil⟩
 | p ::kvs,_,r=>by
   rw[List.map_cons] at r
   cases r with
   | @cons a b as bs h t=>
     obtain⟨rs,c,q⟩:=B3q (P:=P) (w:=w) t
     obtain⟨b1,b2⟩:=b
     exact⟨(p.1,b2)::rs,⟨C6c h.1,rfl,c⟩,.cons ⟨rfl,h.2⟩ q⟩
noncomputable def J1a (trs:List (TE×TE)):TE:=fun σ H Q=>∀p,H p=none ->C2m trs σ (upd H p (.dK [])) fun ps H2=>H2 p=some (.dK [])/\∃kvs:List (Key×V),ps=kvs.map (fun kv=>(kV kv.1,kv.2))/\kvs.length<=15/\Q (.ref p) (upd H2 p (.dK (A7a [] kvs)))
theorem G2t{X:Cx}{pos:Pos}{keys:List (Option Expr)}{values:List Expr}{trs:List (TE×TE)}(h:PPs X pos keys values trs)(hall:keys.all (·.isSome)=true)(hl:keys.length=values.length)(h0:keys≠ [])
   (h15:keys.length<=15):PE X (.Dict keys values pos) (J1a trs):=by
 intro pins s σ H Q I q
 have hn:=I.hok.fresh (Nat.le_refl s.heap.objs.size)
 have I1:=I.laid (a:=s.heap.objs.size) (o:= .dK []) (h':=s.heap.push {cls:= .type "dict",data:= .dict #[]}) (t':=s.toks) (fun _ _ q=>Heap.get?_push_of_some _ q) (Nat.le_refl _) (D3x s.heap I.big)
 refine wpAny_Dict_walk (knd:=Z8 X.prog X.w) hall hl h0 h15 (thn (h pins _ σ _ _ I1 (q _ hn)) fun ws s2 hh_=>?_)
 obtain⟨ps,H2,I2,rel,e,kvs,ep,lk,q2⟩:=hh_
 subst ep
 obtain⟨rs,c,rk⟩:=B3q (P:=X.prog) (w:=X.w) rel
 obtain⟨z,hd,vs0,r0,dd⟩:=G4h I2.hok e
 cases r0
 refine⟨rs,c,dd,fun h' dd' hs=>⟨.ref s.heap.objs.size,_,?_,rfl,q2⟩⟩
 have hz:(A7a [] kvs).length<=sizeLine:=by
   have h1:=A6q kvs []
   rw[List.length_nil] at h1
   rw[sizeLine_eq];omega
 have he:∃q,h'.get? s.heap.objs.size=some q:=let⟨q,_,_,hq,_⟩:=dd';⟨q,hq⟩
 exact B7h I2 (by rw[e];exact True.intro) hs he (D4c hz hd (rk.merge .nil) dd')
end L2
namespace L2
open PySem PySem.Spec PyProof.Rows PySem.W
noncomputable def A3e (F:List Str) (env:Env):List (Str×Addr):=F.map fun x=>(x,(env.cells.lookup x).getD 0)
noncomputable def A7d (js:List Nat) (σ:St):St:=js.map fun j=>(σ[j]?).getD none
noncomputable abbrev Cx.compF (X:Cx) (scope:Scope) (N F:List Str) (C:Addr) (s₀:Shared) (H₀:Hp) (ex:List Addr) (pins:List (Addr×Obj)):Cx:=
 {X with N:=N++F,s₀:=s₀,H₀:=H₀,env:=compEnvC scope (A3e F X.env) C X.env,outer:=X.stack,ex:=ex,fn:=fun _=>false,pn:=pins,xe:=fun _ _=>False}
structure G5(N F:List Str)(js:List Nat)(sc:Scope)(XN:List Str)(env:Env):Prop where
 kind:sc.kind= .function
 cell:∀y∈sc.names,y.2≠ .cell
 loc:∀y∈sc.names,y.2= .local ->sc.names.lookup y.1=some .local
 nd:(N++F).Nodup
 clos:closureFor sc env=pure (A3e F env)
 fr:∀y∈(relabel sc env).names,y.2= .cell\/y.2= .free ->y.1∈F
 at_:∀(k:Nat) (x:Str),F[k]?=some x ->(∃j:Nat,js[k]?=some j/\XN[j]?=some x)/\(∃c,env.cells.lookup x=some c)/\env.kindOf x=some .cell/\(relabel sc env).names.lookup x=some .cell
 jl:js.length=F.length
noncomputable def B8q (n:Nat) (js:List Nat) (wi:TI) (g:TG) (tc:TT) (te:TE):TE:=fun σ H Q=>wi σ H fun J H1=>∀D,H1 D=none ->
 ∃ (m:Nat) (W:Nat ->List V ->Hp ->Prop),W 0 [] (upd H1 D (.lst []))/\∀i ys H2,W i ys H2 ->i<=m/\H2 D=some (.lst ys)/\((J.stop i H2/\Q (.ref D) H2)\/(i<m/\J.go i H2/\∀x H3,J.yld i H2 x H3 ->
   g x (List.replicate n none++A7d js σ) H3 fun σ4 H4=>tc σ4 H4 fun b H5=>if b=true then te σ4 H5 fun y H6=>H6 D=some (.lst ys)/\ys.length<sizeLine/\W (i+1) (ys++ [y]) (upd H6 D (.lst (ys++ [y]))) else W (i+1) ys H5))
noncomputable def C5j (n:Nat) (js:List Nat) (wi:TI) (g:TG) (te:TE):TE:=fun σ H Q=>wi σ H fun J H1=>∀D,H1 D=none ->
 ∃ (m:Nat) (W:Nat ->List V ->Hp ->Prop),W 0 [] (upd H1 D (.lst []))/\∀i ys H2,W i ys H2 ->i<=m/\H2 D=some (.lst ys)/\((J.stop i H2/\Q (.ref D) H2)\/(i<m/\J.go i H2/\∀x H3,J.yld i H2 x H3 ->
   g x (List.replicate n none++A7d js σ) H3 fun σ4 H4=>te σ4 H4 fun y H6=>H6 D=some (.lst ys)/\ys.length<sizeLine/\W (i+1) (ys++ [y]) (upd H6 D (.lst (ys++ [y])))))
theorem G6f{F:List Str}{env:Env}{x:Str}{c:Addr}(h:(A3e F env).lookup x=some c):x∈F/\c=(env.cells.lookup x).getD 0:=by
 have:=PySem.mem_of_lookup h
 obtain⟨y,hy,e⟩:=List.mem_map.mp this
 cases e
 exact⟨hy,rfl⟩
theorem D1c{env:Env}{x:Str}:∀{F:List Str},x∈F ->(A3e F env).lookup x=some ((env.cells.lookup x).getD 0)
 | y ::F,h=>by
   show List.lookup x ((y,(env.cells.lookup y).getD 0)::A3e F env)=_
   by_cases e:x=y
   . subst e;simp[List.lookup]
   . have hb:(x==y)=false:=beq_eq_false_iff_ne.mpr e
     rw[List.lookup_cons,hb]
     exact D1c (by rcases List.mem_cons.mp h with z|z;exact absurd z e;exact z)
section
variable{X:Cx}{N F:List Str}{js:List Nat}{scope:Scope}
theorem G5.sub(S:G5 N F js scope X.N X.env):∀x c,(A3e F X.env).lookup x=some c ->X.env.cells.lookup x=some c:=fun x c z=>by
 obtain⟨hx,rfl⟩:=G6f z
 obtain⟨k,hk⟩:=List.mem_iff_getElem?.mp hx
 obtain⟨_,⟨c,hc⟩,_⟩:=S.at_ k x hk
 rw[hc];rfl
theorem G5.has(S:G5 N F js scope X.N X.env){x:Str}(hx:x∈F):∃c,(A3e F X.env).lookup x=some c/\X.env.cells.lookup x=some c:=
 ⟨_,D1c hx,S.sub _ _ (D1c hx)⟩
theorem B4z{pins:List (Addr×Obj)}{σ:St}{H:Hp}{s:Shared}(S:G5 N F js scope X.N X.env)(I:Inv X pins σ H s){h':Heap}{m:Str ->Option Value}{C:Addr}(hc:∀x c v,X.env.cells.lookup x=some c ->s.heap.IsCell c v ->h'.IsCell c v):
   ∀(i:Nat) (x:Str) (v:V),(N++F)[i]?=some x ->(List.replicate N.length none++A7d js σ)[i]?=some (some v) ->∃u,U7 v u/\J1v (compEnvC scope (A3e F X.env) C X.env) h' m x u:=by
 intro i x v e1 e2
 by_cases hi:i<N.length
 . rw[List.getElem?_append_left (by simpa using hi),List.getElem?_replicate] at e2
   split at e2<;>cases e2
 rw[List.getElem?_append_right (by omega)] at e1
 rw[List.getElem?_append_right (by simp;omega)] at e2
 rw[List.length_replicate] at e2
 obtain⟨⟨j,hj,hx⟩,⟨c,hcc⟩,kx,kr⟩:=S.at_ _ x e1
 unfold A7d at e2
 rw[List.getElem?_map,hj] at e2
 have e2:(σ[j]?).getD none=some v:=Option.some.inj e2
 have e3:σ[j]?=some (some v):=by
   cases q:σ[j]? with
   |none=>rw[q] at e2;cases e2
   |some o=>rw[q] at e2;exact congrArg some e2
 obtain⟨m0,_,hl⟩:=I.loc
 obtain⟨u,r,l⟩:=hl j x v hx e3 (.inr (.inl kx))
 refine⟨u,r,.inr ⟨.inl kr,c,?_,?_⟩⟩
 . obtain⟨c',h1,h2⟩:=S.has (List.mem_of_getElem? e1)
   rw[hcc] at h2
   cases h2
   exact h1
 rcases l with⟨k,_⟩|⟨_,c',h1,h2⟩
 . rw[kx] at k;cases k
 rw[hcc] at h1
 cases h1
 exact hc x c _ hcc h2
theorem D3n(S:G5 N F js scope X.N X.env)(σ:St):(List.replicate N.length none++A7d js σ:St).length=(N++F).length:=by
 unfold A7d
 rw[List.length_append,List.length_replicate,List.length_map,S.jl,List.length_append]
end
structure D4g(N F:List Str)(sc:Scope):Prop where
 kind:sc.kind= .function
 cell:∀y∈sc.names,y.2≠ .cell
 loc:∀y∈sc.names,y.2= .local ->sc.names.lookup y.1=some .local
 fr:∀y∈sc.names,y.2= .free ->y.1∈F
 nd:(N++F).Nodup
theorem A7f{sc:Scope}{env:Env}{F:List Str}(cell:∀y∈sc.names,y.2≠ .cell)(fr:∀y∈sc.names,y.2= .free ->y.1∈F):∀y∈(relabel sc env).names,y.2= .cell\/y.2= .free ->y.1∈F:=by
 intro y hy h
 obtain⟨⟨n,k⟩,hm,e⟩:=List.mem_map.mp hy
 dsimp only at e
 split at e
 . rename_i hc
   subst e
   simp only[Bool.and_eq_true] at hc
   exact fr (n,k) hm (by simpa using hc.1.1)
 subst e
 rcases h with h|h
 . exact absurd h (cell (n,k) hm)
 exact fr (n,k) hm h
theorem G5.of1{N:List Str}{x:Str}{j:Nat}{sc:Scope}{XN:List Str}{env:Env}(S:D4g N [x] sc)(clos:closureFor sc env=pure (A3e [x] env))(hj:XN[j]?=some x)(hc:∃c,env.cells.lookup x=some c)(hk:env.kindOf x=some .cell)
   (hr:(relabel sc env).names.lookup x=some .cell):G5 N [x] [j] sc XN env:=
 ⟨S.kind,S.cell,S.loc,S.nd,clos,A7f S.cell S.fr,fun k y h=>match k,h with
   |0,h=>by cases h;exact⟨⟨j,rfl,hj⟩,hc,hk,hr⟩
   |k+1,h=>by simp at h,rfl⟩
theorem G5.of2{N:List Str}{x y:Str}{j k:Nat}{sc:Scope}{XN:List Str}{env:Env}(S:D4g N [x,y] sc)(clos:closureFor sc env=pure (A3e [x,y] env))(hj:XN[j]?=some x)(hc:∃c,env.cells.lookup x=some c)(hk:env.kindOf x=some .cell)
   (hr:(relabel sc env).names.lookup x=some .cell) (hj':XN[k]?=some y) (hc':∃c,env.cells.lookup y=some c) (hk':env.kindOf y=some .cell) (hr':(relabel sc env).names.lookup y=some .cell):G5 N [x,y] [j,k] sc XN env:=
 ⟨S.kind,S.cell,S.loc,S.nd,clos,A7f S.cell S.fr,fun i z h=>match i,h with
   |0,h=>by cases h;exact⟨⟨j,rfl,hj⟩,hc,hk,hr⟩
   |1,h=>by cases h;exact⟨⟨k,rfl,hj'⟩,hc',hk',hr'⟩
   |i+2,h=>by simp at h,rfl⟩
theorem A0y(z:Str):∀zs:List Str,inV (.str z) (zs.map V.str)=zs.contains z
 | []=>rfl
 | y::zs=>by
   show(eqV (.str y) (.str z)||inV (.str z) (zs.map V.str))=_
   rw[A0y z zs,List.contains_cons]
   show((y==z)||_)=_
   rw[BEq.comm]
theorem Y9:∀zs:List Str,(zs.map V.str).all A9d=true
 | []=>rfl
 |_::zs=>Y9 zs
theorem B4e{K:Frag}{H:Hp}{σ σf:L2.St}{a:Addr}{zs:List Str}{f:Str ->Bool}{tc:TT}{te:TE}{Q:VK}(hl:∀H,SqT K H a (zs.map V.str))(hz:zs.length<=100)
   (ht:∀(z:Str) (H':Hp) (Qb:Bool ->Hp ->Prop),B5 H H' ->Qb (f z) H' ->tc (some (.str z)::σf) H' Qb) (he:∀(z:Str) (H':Hp) (Qv:VK),Qv (.str z) H' ->te (some (.str z)::σf) H' Qv)
   (k:∀D H',B5 H H' ->H D=none ->H' D=some (.lst ((zs.filter f).map V.str)) ->Q (.ref D) H') {js:List Nat} (hj:A7d js σ=σf):B8q 1 js (J2m K (tC (.ref a))) (C6g 0) tc te σ H Q:=by
 refine⟨a,rfl,⟨_,hl H⟩,fun D hD=>⟨zs.length,fun i ys H2=>i<=zs.length/\ys=((zs.take i).filter f).map V.str/\H2=upd H D (.lst ys),⟨Nat.zero_le _,rfl,rfl⟩,?_⟩⟩
 rintro i ys H2 ⟨hi,rfl,rfl⟩
 refine⟨hi,A6,?_⟩
 have sm:B5 H (upd H D (.lst (((zs.take i).filter f).map V.str))):=B5.upd hD
 have lz:(((zs.take i).filter f).map V.str).length<=100:=by
   rw[List.length_map]
   exact Nat.le_trans (List.length_filter_le _ _) (by rw[List.length_take];omega)
 by_cases hlt:i<zs.length
 . refine .inr ⟨hlt,⟨_,V.str zs[i],hl _,by simp[hlt]⟩,fun x H3 y=>?_⟩
   obtain⟨rfl,y⟩:=y
   have ex:x=V.str zs[i]:=by
     have:=y _ (hl _)
     simp[hlt] at this
     exact this.symm
   subst ex
   rw[hj]
   show tc (some (.str zs[i])::σf) _ _
   refine ht _ _ _ sm ?_
   have et:(zs.take (i+1)).filter f=(zs.take i).filter f++(if f zs[i] then [zs[i]] else []):=by
     rw[List.take_succ_eq_append_getElem hlt,List.filter_append]
     congr 1
     cases hb:f zs[i]<;>simp[hb]
   cases hb:f zs[i] with
   | false=>
     refine U6 ⟨hlt,?_,rfl⟩
     rw[et,hb];simp
   | true=>
     refine Y3 (he _ _ _ ⟨A6,Nat.lt_of_le_of_lt lz (Y8 (by decide)),hlt,?_,?_⟩)
     . rw[et,hb];simp
     . rw[G4b]
 have e:i=zs.length:=by omega
 subst e
 refine .inl ⟨⟨_,hl _,by simp⟩,k D _ sm hD ?_⟩
 rw[List.take_length]
 exact A6
end L2
namespace L2
open PySem
section
variable{prog:Program}{w:World}{A:Around}{E:Value ->Shared ->Prop}{h:Heap}{g:Array GenState}{d:Drawn}{t:Nat}{os:OsState}
variable{nm q:Str}{C N:Addr}{bs bm bmB:List Value}{hdct:Bool}{sn:List Str}{sub:List Value}{ab:Bool}{col:Option Bool}{dd:Option Addr}{k0 k1 k2 k3 k5:Option Value}{B newId initId:String}
theorem A6j(F:ExcBaseFacts B newId initId bmB)(T:OwnTail h bmB bm){mN:Str ->Option Value}{rest:List Value}{fI:Addr}{oI:Obj}{Q:Fin ->Shared ->Prop}
   (hC:h.get? C=some (excClassObj nm q C N bs bm hdct sn sub ab col dd k0 k1 k2 k3 k5 newId)) (hn:h.Ns N mN) (hi:mN "__init__"=some (.ref fI))
   (hfI:h.get? fI=some oI) (hfc:oI.cls= .type "function")
   (hq:∀h' e,Heap.MadeExcOf h h' e (.ref C) rest ->
     wpAny (model prog w) A (call (.ref fI) (.ref e::rest)) (fun r s'=>r= .none/\Q (.done (.ret (.ref e))) s') E ⟨h',g,d,t,os⟩) (hrest:rest.length<=sizeLine):
   wpAny (model prog w) A (Builtin.«type.__call__» ⟨.ref C :: rest, []⟩) Q E ⟨h, g, d, t, os⟩ := by
 repeat (first|with_reducible refine wpAny_loadPart_at hC ?_|with_reducible refine wpAny_madeBy_exc hC ?_|wp_step)
 refine codeAny_call_builtin_code (Code.quiet_builtin _ F.quiet) (wpAny_check_new_subT F T hC ?_)
 refine codeAny_exc_new_subT F T hC ?_ hrest
 show wpAny _ _ _ _ _ _
 have hC₁:=Heap.get?_push_of_some {cls:= .ref C,data:= .fields #[.ref h.objs.size,.none,.none,.none,.bool false,.none]}
   (Heap.get?_push_of_some {cls:= .type "tuple",data:= .seq rest.toArray} hC)
 have hfI₁:=Heap.get?_push_of_some {cls:= .ref C,data:= .fields #[.ref h.objs.size,.none,.none,.none,.bool false,.none]}
   (Heap.get?_push_of_some {cls:= .type "tuple",data:= .seq rest.toArray} hfI)
 have hn₁:((h.push {cls:= .type "tuple",data:= .seq rest.toArray}).push {cls:= .ref C,data:= .fields #[.ref h.objs.size,.none,.none,.none,.bool false,.none]}).Ns N mN:=
   let⟨o,es,ep,e,r⟩:=hn;⟨o,es,ep,Heap.get?_push_of_some _ (Heap.get?_push_of_some _ e),r⟩
 have hget:((h.push {cls:= .type "tuple",data:= .seq rest.toArray}).push
     {cls:= .ref C,data:= .fields #[.ref h.objs.size,.none,.none,.none,.bool false,.none]}).get? (h.objs.size+1)=some
     {cls:= .ref C,data:= .fields #[.ref h.objs.size,.none,.none,.none,.bool false,.none]}:=by heap_get
 have hcC:(Value.ref C::bm).contains (.ref C)=true:=by simp
 have T₁:=T.keeps (h':=(h.push {cls:= .type "tuple",data:= .seq rest.toArray}).push {cls:= .ref C,data:= .fields #[.ref h.objs.size,.none,.none,.none,.bool false,.none]})
   fun b o e=>Heap.get?_push_of_some _ (Heap.get?_push_of_some _ e)
 unfold isInstance
 repeat (first|with_reducible refine wpAny_loadPart_at hget ?_|(with_reducible refine wpAny_isSubtype_exc hC₁ ?_;rw[hcC])|wp_step)
 show wpAny _ _ (typeLookup (.ref C) _) _ _ _
 refine wpAny_typeLookup_tail hC₁ hn₁ T₁ F.mroIs F.init.lookup ?_
 rw[hi]
 refine wpAny_holding (wpAny_bind ?_)
 unfold bindSpecial
 refine wpAny_bind (wpAny_typeOf (T:="function") ⟨_,hfI₁,hfc⟩ ?_)
 rw[if_pos (by decide)]
 refine wpAny_pure (wpAny_bind (wpAny_mono (hq _ (h.objs.size+1) ⟨fun b o hb=>Heap.get?_push_of_some _ (Heap.get?_push_of_some _ hb),Heap.get?_none_of_le (Nat.le_succ _),h.objs.size,hget,Heap.get?_none_of_le (Nat.le_refl _),?_⟩) (fun r s' hr=>?_) fun _ _ x=>x))
 . exact Heap.get?_push_of_some _ (Heap.get?_push_at rfl rfl)
 obtain⟨rfl,hQ⟩:=hr
 wp_walk
 exact hQ
theorem B4a(F:ExcBaseFacts B newId initId bmB)(T:OwnTail h bmB bm){mN:Str ->Option Value}{rest:List Value}{fI:Addr}{oI:Obj}{Q:Value ->Shared ->Prop}
   (hC:h.get? C=some (excClassObj nm q C N bs bm hdct sn sub ab col dd k0 k1 k2 k3 k5 newId)) (hn:h.Ns N mN) (hi:mN "__init__"=some (.ref fI))
   (hfI:h.get? fI=some oI) (hfc:oI.cls= .type "function")
   (hq:∀h' e,Heap.MadeExcOf h h' e (.ref C) rest ->
     wpAny (model prog w) (A.under (.builtin "type.__call__" ⟨.ref C::rest,[]⟩)) (call (.ref fI) (.ref e::rest)) (fun r s'=>r= .none/\Q (.ref e) s') E ⟨h',g,d,t,os⟩) (hrest:rest.length<=sizeLine):
   wpAny (model prog w) A (call (.ref C) rest) Q E ⟨h,g,d,t,os⟩:=by
 have f1:=tc_lookup
 have f2:=tc_bind (.ref C)
 have hT:(⟨h,g,d,t,os⟩:Shared).TypeIs (.ref C) "type":=⟨_,hC,rfl⟩
 refine wpAny_call (codeAny_of_tree ?_)
 show wpAny _ _ (callAny (.ref C) _) _ _ _
 repeat (any_goals (first|assumption|with_reducible refine wpAny_loadPart_at hC ?_|wp_step))
 refine⟨rfl,?_⟩
 refine codeAny_call_builtin_at (Code.quiet_builtin _ (by decide+kernel)) entry_typeCall (wpAny_check_type_call_sub hC (A6j (hrest:=hrest) F T hC hn hi hfI hfc fun h' e hm=>?_))
 exact hq h' e hm
end
section
variable{M:Model}{prog:Program}{w:World}{A:Around}{E:Value ->Shared ->Prop}{s:Shared}{env:Env}
variable{nm q:Str}{C N:Addr}{bs bm bmB:List Value}{hdct:Bool}{sn:List Str}{sub:List Value}{ab:Bool}{col:Option Bool}{dd:Option Addr}{k0 k1 k2 k3 k5:Option Value}{B newId initId:String}
theorem A5n{x:Sem Value}{Q:Flow ->Shared ->Prop}(hbase:bm.contains (.type "BaseException")=true)(hh:A.handled=none)
   (h:wpAny M A x (fun v s₁=>∃e t de,v= .ref e/\s₁.heap.get? C=some (excClassObj nm q C N bs bm hdct sn sub ab col dd k0 k1 k2 k3 k5 newId)/\
     s₁.heap.get? e=some {cls:= .ref C,dict:=de,data:= .fields #[.ref t,.none,.none,.none,.bool false,.none]}/\E (.ref e) s₁) E s):
   wpAny M A (raiseStmt env (some x) none) Q E s:=by
 have hcB:(Value.ref C::bm).contains (.type "BaseException")=true:=by rw[List.contains_cons,hbase,Bool.or_true]
 unfold raiseStmt
 refine wpAny_bind (wpAny_mono h (fun v s₁ h₁=>?_) fun _ _ x=>x)
 obtain⟨e,t,de,rfl,hC,he,hE⟩:=h₁
 obtain⟨hp,g,d,tk,os⟩:=s₁
 repeat (first|with_reducible refine wpAny_loadPart_at he ?_|with_reducible refine wpAny_loadPart_at hC ?_|(with_reducible refine wpAny_isSubtype_exc hC ?_;rw[hcB])|wp_step)
 exact wpAny_raiseNew_none hh hE
theorem A9r(F:ExcBaseFacts B newId initId bmB){mN:Str ->Option Value}{x:Str}{np cpos pos:Pos}{args:List Expr}{Q:Flow ->Shared ->Prop}{fI:Addr}{oI:Obj}
   (hbase:bm.contains (.type "BaseException")=true) (hh:A.handled=none) (hplain:(backTo cpos (starEach args env)).any (·.1)=false) (hi:mN "__init__"=some (.ref fI)) (hfc:oI.cls= .type "function")
   (h:wpAny (model prog w) A (eval (.Name x np) env) (fun f s₁=>f= .ref C/\wpAny (model prog w) A (evalArgs (.ref C) true (backTo cpos (starEach args env)) [])
     (fun a s₂=>a.kw=[]/\a.pos.length<=sizeLine/\s₂.heap.get? C=some (excClassObj nm q C N bs bm hdct sn sub ab col dd k0 k1 k2 k3 k5 newId)/\s₂.heap.Ns N mN/\OwnTail s₂.heap bmB bm/\s₂.heap.get? fI=some oI/\
       ∀ h' e,Heap.MadeExcOf s₂.heap h' e (.ref C) a.pos ->wpAny (model prog w) (A.under (.builtin "type.__call__" ⟨.ref C::a.pos,[]⟩)) (call (.ref fI) (.ref e::a.pos))
         (fun r s₃=>r= .none/\s₃.heap.get? C=some (excClassObj nm q C N bs bm hdct sn sub ab col dd k0 k1 k2 k3 k5 newId)/\(∃t de,s₃.heap.get? e=some {cls:= .ref C,dict:=de,data:= .fields #[.ref t,.none,.none,.none,.bool false,.none]})/\E (.ref e) s₃) E {s₂ with heap:=h'}) E s₁) E s):
   wpAny (model prog w) A (exec (.Raise (some (.Call (.Name x np) args [] cpos)) none pos) env) Q E s:=by
 rw[arm_exec_Raise]
 first
   |refine wpAny_bind (wpAny_standAt (A5n (C:=C) (nm:=nm) (q:=q) (N:=N) (bs:=bs) (bm:=bm) (hdct:=hdct) (sn:=sn) (sub:=sub) (ab:=ab) (col:=col) (dd:=dd) (k0:=k0) (k1:=k1) (k2:=k2) (k3:=k3) (k5:=k5) (newId:=newId) hbase hh (wpAny_bind (wpAny_mono (wpAny_Call_ofName (wpAny_mono h (fun f s₁ h₁=>?_) fun _ _ x=>x)) (fun v s₃ h₃=>wpAny_bind (wpAny_standAt (wpAny_pure h₃))) fun _ _ x=>x))))
   |(simp only[evalOpt,Option.map];refine wpAny_bind (wpAny_standAt (A5n (C:=C) (nm:=nm) (q:=q) (N:=N) (bs:=bs) (bm:=bm) (hdct:=hdct) (sn:=sn) (sub:=sub) (ab:=ab) (col:=col) (dd:=dd) (k0:=k0) (k1:=k1) (k2:=k2) (k3:=k3) (k5:=k5) (newId:=newId) hbase hh (wpAny_bind (wpAny_mono (wpAny_Call_ofName (wpAny_mono h (fun f s₁ h₁=>?_) fun _ _ x=>x)) (fun v s₃ h₃=>wpAny_bind (wpAny_standAt (wpAny_pure h₃))) fun _ _ x=>x)))))
 obtain⟨rfl,h₁⟩:=h₁
 unfold callWith
 refine wpAny_bind (wpAny_holding (wpAny_mono h₁ (fun a s₂ h₂=>wpAny_bind (wpAny_standAt ?_)) fun _ _ x=>x))
 obtain⟨apos,akw⟩:=a
 obtain⟨hkw,hlen,hC,hn,T,hf,h₂⟩:=h₂
 obtain rfl:akw=[]:=hkw
 obtain⟨hp,g,d,tk,os⟩:=s₂
 simp only[hplain]
 refine wpAny_bind (wpAny_keeperOf_exc hC ?_)
 refine wpAny_bind (B4a F T hC hn hi hf hfc (fun h' e hm=>wpAny_mono (h₂ h' e hm) (fun r s₃ z=>⟨z.1,wpAny_bind (wpAny_holding (wpAny_point (wpAny_pure ?_)))⟩) fun _ _ x=>x) hlen)
 obtain⟨_,hC3,⟨t,de,he⟩,hE⟩:=z
 exact⟨e,t,de,rfl,hC3,he,hE⟩
end
end L2
namespace L2
open PySem PySem.Spec PyProof.Rows PySem.W
noncomputable abbrev C5w:List Value:=[.type "ValueError",.type "Exception",.type "BaseException",.type "object"]
structure C9k(K:Frag)(C fI:Addr):Prop where
 cls:∃nm q N bs bm sn sub ab col dd k0 k1 k2 k3 k5,K.lookup C=some (excClassObj nm q C N bs bm true sn sub ab col dd k0 k1 k2 k3 k5 "ValueError.__new__")/\nsOkIn K N=true/\nsIn K N "__init__"=some (some (.ref fI))/\tailIn K C5w bm=true
 fn:∃o,K.lookup fI=some o/\o.cls= .type "function"
 sa:findIn K (.ref C) "__setattr__"=some (some (.builtin "object.__setattr__"))
 ob:mroIn K C (.type "object")=some true
theorem C3e{K:Frag}{h:Heap}{N:Addr}{mg:Str ->Option Value}{n:Str}{v:Value}(X:K.In h)(G:h.Ns N mg)(e:nsIn K N n=some (some v)):mg n=some v:=by
 obtain⟨o,es,ep,ho,hd,_,hf⟩:=G
 unfold nsIn at e
 split at e
 . rename_i c d es' n' sl q
   have:=X _ _ q
   rw[ho] at this
   cases this
   cases hd
   split at e
   . rename_i en he
     cases e
     rw[<-hf]
     unfold nsFind findBy
     rw[<-Array.find?_toList,he]
     rfl
   . split at e<;>cases e
 cases e
theorem B0n{h:Heap}(self:Value):∀{l:List Value},OwnTail h C5w l ->refuseLoop self "__setattr__" l=pure ()
 |_,.base=>PySem.F.store_ValueError.passes self
 |_,.own _ _ _ t=>by rw[refuseLoop_ref];exact B0n self t
section
variable{prog:Program}{w:World}{A:Around}{s:Shared}{K:Frag}{C e fI:Addr}{t:Addr}{R:Result ->Shared ->Prop}{name:Str}{tk:Tok}{v:Value}
theorem G1w(X:K.In s.heap)(F:C9k K C fI)(he:s.heap.get? e=some (Z0 (.ref C) t none .none))(ht:findIn K (.ref C) name=some none)
   (h:∀h' tk' d,(∀b ob,b≠e ->s.heap.get? b=some ob ->h'.get? b=some ob) ->h'.get? e=some (Z0 (.ref C) t (some d) .none) ->h'.Ns1 d (fun y=>if y=name then some v else none) ->s.heap.get? d=none ->d≠e ->
     R (.ok (.ret .none)) {s with heap:=h',toks:=tk'}):
   codeAny (model prog w) A (.call (.builtin "object.__setattr__") ⟨[.ref e,.str name tk,v],[]⟩) R s:=by
 have SF:=PySem.F.store_object
 obtain⟨nm,q,N,bs,bm,sn,sub,ab,col,dd,k0,k1,k2,k3,k5,lC,nO,nI,tl⟩:=F.cls
 have hC:=X _ _ lC
 have I:PySem.W.InstAt s.heap e (Z0 (.ref C) t none .none) C none:=⟨he,rfl,rfl,trivial⟩
 have hc:clsIn K C=some {name:=nm,bases:=bs,mro:= .ref C::bm,ns:=N,qualname:=q,hasDict:=true,slotNames:=sn,subclasses:=sub,abstract:=ab,collection:=col,hasDel:=false}:=by
   unfold clsIn
   rw[lC]
 have sub':Looks (model prog w) s.heap (isInstance (.ref e) (.type "object")) true:=I.type.andThen (looks_mroIn X F.ob)
 refine codeAny_call_builtin SF.slot.plain SF.entry (@check_slot (model prog w) _ _ s "object.__setattr__" "object" "__setattr__" (.ref e) [.str name tk,v] [] _ SF.kind SF.split sub' (SF.args (.ref e) (.str name tk) v) ?_)
 have hm:Looks (model prog w) s.heap (mroOf (.ref C)) (.ref C::bm):=(looks_clsIn X hc).andThen .now
 have L3:Looks (model prog w) s.heap (Builtin.ObjectAttr.storeTaker? none) none:= .now
 rw[osa_eq,refuse_eq]
 refine wpAny_bind (wpAny_bind (I.type.here (wpAny_bind (hm.here ?_))))
 rw[refuseLoop_ref,B0n _ (tail_of_in X tl)]
 refine wpAny_pure (wpAny_bind (I.type.here (wpAny_bind ((looks_findIn X ht).here (wpAny_bind (L3.here ?_))))))
 dsimp only
 refine wpAny_bind (wpAny_pure (wpAny_bind (wpAny_bind (wpAny_loadPart he (wpAny_bind (PySem.W.Looks.here (PySem.W.looks_clsIn X hc) ?_))))))
 have hx₁:(s.heap.push {cls:= .type "dict",data:= .dict #[]}).get? e=some (Z0 (.ref C) t none .none):=Heap.get?_push_of_some _ he
 have hxs:e≠s.heap.objs.size:=Nat.ne_of_lt (Heap.lt_size he)
 show wpAny (model prog w) A.in1 (do
     let d<-alloc {cls:=Value.type "dict",data:=Data.dict #[]}
     update e fun o=>{cls:=o.cls,dict:=some d,data:=o.data,slots:=o.slots}
     pure (some d)) _ _ _
 refine wpAny_bind (wpAny_alloc' ?_)
 refine wpAny_bind (wpAny_update' hx₁ ?_)
 refine wpAny_pure ?_
 have hgd:((s.heap.push {cls:= .type "dict",data:= .dict #[]}).update e fun o=>{cls:=o.cls,dict:=some s.heap.objs.size,data:=o.data,slots:=o.slots}).get? s.heap.objs.size
     =some {cls:= .type "dict",data:= .dict #[]}:=
   (Heap.get?_update_ne _ _ _ _ hxs.symm).trans (Heap.get?_push_at rfl rfl)
 have hnd:((s.heap.push {cls:= .type "dict",data:= .dict #[]}).update e fun o=>{cls:=o.cls,dict:=some s.heap.objs.size,data:=o.data,slots:=o.slots}).Ns s.heap.objs.size (fun _=>none):=
   ⟨_, #[],_,hgd,rfl,fun e he=>absurd he (by simp),fun _=>rfl⟩
 show wpAny _ _ (Builtin.ObjectAttr.storeInDict s.heap.objs.size (.str name tk) name v) _ _ _
 unfold Builtin.ObjectAttr.storeInDict Builtin.ObjectAttr.newKeyGuard
 refine wpAny_bind (wpAny_pure (wpAny_bind (wpAny_nsSet1 (Heap.Ns1.of_empty hnd) fun h' hn' hs=>?_)))
 obtain⟨oD,esD,epD,hoD,hdD,hcD⟩:=hn'.count (Within.cons name v Within.nil)
 refine wpAny_bind (wpAny_lookBehind hoD (by rw[hdD];exact pastItsLine_dict (Nat.le_trans hcD (by rw[List.length_cons,List.length_nil,sizeLine_eq];omega))) ?_)
 have hx':h'.get? e=some (Z0 (.ref C) t (some s.heap.objs.size) .none):=(hs.2 e hxs).trans (Heap.get?_update_self _ hx₁ rfl)
 refine wpAny_pure (h h' _ s.heap.objs.size (fun b ob hbx hb=>?_) hx' hn' (Heap.get?_none_of_le (Nat.le_refl _)) hxs.symm)
 exact(hs.2 b (Nat.ne_of_lt (Heap.lt_size hb))).trans ((Heap.get?_update_ne _ _ _ _ hbx).trans (Heap.get?_push_of_some _ hb))
end
noncomputable def A3a (e C t:Addr) (d:Option Addr):Heap ->Prop:=fun h=>h.get? e=some (Z0 (.ref C) t d .none)
theorem D0q{P:Program}{w:World}{H:Hp}{h:Heap}{e C t:Addr}{d:Option Addr}(q:h.get? e=some (Z0 (.ref C) t d .none)):Y4 P w H h e (.ext (A3a e C t d)):=
 ⟨q,⟨_,q⟩,fun _ _ z k=>k _ z⟩
section
variable{X:Cx}{pins:List (Addr×Obj)}{σ:St}{H:Hp}{s:Shared}
theorem Inv.trackO{a:Addr}{ho:HO}(I:Inv X pins σ H s)(n:Nw X pins H a)(ok:Y4 X.prog X.w (upd H a ho) s.heap a ho):Inv X pins σ (upd H a ho) s:=by
 have ne:∀b u,H b=some u ->b≠a:=fun b u z q=>by rw[q,n.un] at z;cases z
 have up:∀b,b≠a ->upd H a ho b=H b:=fun b hb=>D5 hb
 refine⟨I.ok,I.os,I.bare,⟨I.base.keep,I.base.slot,fun b u z m hx=>?_,I.base.there,fun b xs z=>?_,fun b u v z=>?_,fun b ps z=>?_⟩,I.loc,I.cell,?_,fun x c z=>?_,fun p hp=>?_,fun b u z=>?_,I.len⟩
 . rw[up b fun q=>by rw[q,n.old] at z;cases z]
   exact I.base.free b u z m hx
 . have:=I.base.tups b xs z
   rw[up b (ne b _ this)];exact this
 . have:=I.base.frzs b u v z
   rw[up b (ne b _ this)];exact this
 . obtain⟨more,this⟩:=I.base.tbls b ps z
   exact⟨more,by rw[up b (ne b _ this)];exact this⟩
 . rw[up _ (Ne.symm n.loc)];exact I.free
 . rw[up _ (n.cell x c z)];exact I.freeC x c z
 . obtain⟨q1,q2,q3⟩:=I.pin p hp
   exact⟨q1,by rw[up _ (n.pin p hp)];exact q2,q3⟩
 by_cases hb:b=a
 . subst hb
   rw[A6] at z
   cases z
   exact ok
 rw[up b hb] at z
 exact(I.hok b u z).stay (fun _ _ _ q=>q) (fun c q=>by rw[up c (ne c _ q)];exact q) (fun c xs q=>by rw[up c (ne c _ q)];exact q)
noncomputable def rem (H:Hp) (a:Addr):Hp:=fun b=>if b=a then none else H b
theorem B2c{a:Addr}:rem H a a=none:=by unfold rem;rw[if_pos rfl]
theorem A4r{a b:Addr}(h:b≠a):rem H a b=H b:=by unfold rem;rw[if_neg h]
theorem Inv.forget{a:Addr}{φ:Heap ->Prop}(I:Inv X pins σ H s)(e:H a=some (.ext φ)):Inv X pins σ (rem H a) s:=by
 have ne:∀b u,H b=some u ->(∀φ,u≠ .ext φ) ->b≠a:=fun b u z q w=>by rw[w,e] at z;cases z;exact q _ rfl
 have non:∀b,H b=none ->rem H a b=none:=fun b z=>by
   by_cases q:b=a
   . rw[q];exact B2c
   . rw[A4r q];exact z
 refine⟨I.ok,I.os,I.bare,⟨I.base.keep,I.base.slot,fun b u z m hx=>non b (I.base.free b u z m hx),I.base.there,fun b xs z=>?_,fun b u v z=>?_,fun b ps z=>?_⟩,I.loc,I.cell,non _ I.free,fun x c z=>non _ (I.freeC x c z),fun p hp=>?_,fun b u z=>?_,I.len⟩
 . have:=I.base.tups b xs z
   rw[A4r (ne b _ this (fun _ q=>nomatch q))];exact this
 . have:=I.base.frzs b u v z
   rw[A4r (ne b _ this (fun _ q=>nomatch q))];exact this
 . obtain⟨more,this⟩:=I.base.tbls b ps z
   exact⟨more,by rw[A4r (ne b _ this (fun _ q=>nomatch q))];exact this⟩
 . obtain⟨q1,q2,q3⟩:=I.pin p hp
   exact⟨q1,non _ q2,q3⟩
 have hb:b≠a:=fun q=>by rw[q,B2c] at z;cases z
 rw[A4r hb] at z
 exact(I.hok b u z).stay (fun _ _ _ q=>q) (fun c q=>by rw[A4r (ne c _ q (fun _ w=>nomatch w))];exact q) (fun c xs q=>by rw[A4r (ne c _ q (fun _ w=>nomatch w))];exact q)
end
noncomputable def J1n (C:Addr) (ta tv:TE) (f:Str):TS:=fun D σ H=>tv σ H fun y H1=>ta σ H1 fun x H2=>∃e t,x= .ref e/\H2 e=some (.ext (A3a e C t none))/\
 ∀d,H2 d=none ->d≠e ->D.nx σ (upd (upd H2 e (.ext (A3a e C t (some d)))) d (.xd [(f,y)]))
section
variable{X:Cx}{o value:Expr}{f:Str}{pos pos':Pos}{ta tv:TE}{C fI:Addr}
theorem G3e(F:C9k X.K C fI)(hf:findIn X.K (.ref C) f=some none)(ha:PE X o ta)(hv:PE X value tv)(hs:swapsWith value (some (.Attribute o f pos')) pos.line X.env=pure false)(hex:X.ex=[]:=by rfl):
   PS X (.Assign [.Attribute o f pos'] value pos) (J1n C ta tv f):=by
 intro pins s σ H D I h
 refine plainObj_wpAny_Assign_Attribute (thn (hv pins s σ H _ I h) fun u s1 ⟨y,H1,I1,ry,q⟩=>thn (ha pins s1 σ H1 _ I1 q) fun ov s2 hh_=>?_) hs
 obtain⟨x,H2,I2,rx,e,t,ex,ea,q2⟩:=hh_
 subst ex
 obtain rfl:ov=Value.ref e:=rx
 have he:s2.heap.get? e=some (Z0 (.ref C) t none .none):=(I2.hok e _ ea).1
 refine set_plain I2.kIn (⟨he,rfl,rfl,trivial⟩:PySem.W.InstAt s2.heap e (Z0 (.ref C) t none .none) C none) F.sa (G1w (s:={s2 with toks:=s2.toks+1}) I2.kIn F he hf fun h' tk' d k1 k2 k3 k4 k5=>?_)
 have nd:H2 d=none:=I2.hok.new k4
 have I3:Inv X pins σ (upd H2 e (.ext (A3a e C t (some d)))) {s2 with heap:=h',toks:=tk'}:=
   I2.write (x:=e) (e:=e) (by rw[ea];exact trivial) (.inl rfl) (fun b u hb z=>k1 b u hb z) ⟨_,k2⟩ (D0q k2)
 have nw:Nw X pins (upd H2 e (.ext (A3a e C t (some d)))) d:=I2.nw hex k4 (by rw[D5 k5];exact nd)
 refine⟨σ,_,I3.trackO (ho:= .xd [(f,y)]) nw ⟨_,k3,fun g=>?_⟩,q2 d nd k5⟩
 show A3x (List.lookup g [(f,y)]) (if g=f then some u else none)
 by_cases z:g=f
 . rw[if_pos z,z]
   have:List.lookup f [(f,y)]=some y:=by simp[List.lookup]
   rw[this];exact ry
 rw[if_neg z]
 have:List.lookup g [(f,y)]=none:=by
   have hb:(g==f)=false:=beq_eq_false_iff_ne.mpr z
   simp[List.lookup,hb]
 rw[this];exact trivial
end
noncomputable def B8b (C:Addr) (f:Str):Sp:=fun vs H Q _=>∃e t v,vs=[.ref e,v]/\H e=some (.ext (A3a e C t none))/\∀d,H d=none ->d≠e ->Q .non (upd (upd H e (.ext (A3a e C t (some d)))) d (.xd [(f,v)]))
noncomputable def G0c (C:Addr) (f:Str) (EH:EK) (t:TA):TS:=fun _ σ H=>t σ H fun vs H1=>∃v,vs=[v]/\∀d H2,B5 H1 H2 ->H1 d=none ->H2 d=some (.xd [(f,v)]) ->EH (.ref C) (some d) σ H2
section
variable{X:Cx}{x f:Str}{p cpos pos:Pos}{e:Expr}{t:TA}{C fI:Addr}{fdI:FuncData}{ps:List Str}{EH:EK}{j k:Nat}
theorem C7w(hm:X.mg x=some (.ref C))(F:C9k X.K C fI)(G:A8 X.prog X.w X.K X.mg X.base CX0 j fI fdI ps (B8b C f))(bI:Binds X.K fdI ps [])(hr:A0j k X.A)(hx:U0 X EH)(ha:PA X [e] t)(hj:j+1<=k:=by decide)(hg:Gl X x:=by rfl)(hex:X.ex=[]:=by rfl)
   (hdb:(x==("__debug__":Str))=false:=by decide) (he:starEach [e] X.env=(false,eval e X.env)::starEach [] X.env:=by rfl) (hpl:(backTo cpos (starEach [] X.env)).any (·.1)=false:=by rfl):
   PS X (.Raise (some (.Call (.Name x p) [e] [] cpos)) none pos) (G0c C f EH t):=by
 intro pins s σ H D I h
 obtain⟨nm,q,N,bs,bm,sn,sub,ab,col,dd,k0,k1,k2,k3,k5,lC,nO,nI,tl⟩:=F.cls
 obtain⟨oI,lI,cI⟩:=F.fn
 have T0:OwnTail X.base C5w bm:=tail_of_in I.ok.mod.kin tl
 have hN0:X.base.Ns N (X.base.nsMap N):= .of_isNs (isNs_of_in I.ok.mod.kin nO)
 have hi0:X.base.nsMap N "__init__"=some (.ref fI):=C3e I.ok.mod.kin hN0 nI
 refine A9r (C:=C) (nm:=nm) (q:=q) (N:=N) (bs:=bs) (bm:=bm) (hdct:=true) (sn:=sn) (sub:=sub) (ab:=ab) (col:=col) (dd:=dd) (k0:=k0) (k1:=k1) (k2:=k2) (k3:=k3) (k5:=k5) (oI:=oI) PySem.F.excBase_ValueError (mN:=X.base.nsMap N) (T0.hasType PySem.F.excBase_ValueError.hasBase) hr.hd
   (by rw[he];show(false||(backTo cpos (starEach [] X.env)).any (·.1))=false;rw[hpl];rfl) hi0 cI (A1w I hg hm ⟨rfl,?_⟩ hdb)
 have ha':=ha cpos pins s σ H _ I h
 rw[he] at ha' ⊢
 refine Calls.evalArgs_plain (wpAny_mono ha' (fun us s2 hh_=>?_) fun _ _ y=>y)
 obtain⟨vs,H1,I1,r,v,ev,z⟩:=hh_
 subst ev
 obtain⟨u,rfl,ru⟩:=r.one
 refine⟨rfl,C7 (by show 1<=1000;decide),I1.kIn _ _ lC,hN0.keeps I1.bk,T0.keeps I1.bk,I1.kIn _ _ lI,fun h' a m=>?_⟩
 obtain⟨t',e1,tn,e2⟩:=m.there
 have I2:Inv X pins σ H1 {s2 with heap:=h'}:=I1.kept (t':=s2.toks) m.keeps
 have na:H1 a=none:=I1.hok.new m.new
 have I3:=I2.trackO (ho:= .ext (A3a a C t' none)) (I1.nw hex m.new na) (D0q e1)
 have sp0:B8b C f [.ref a,v] (upd H1 a (.ext (A3a a C t' none))) (fun v0 H'=>v0= .non/\∃d,H1 d=none/\d≠a/\H'=upd (upd (upd H1 a (.ext (A3a a C t' none))) a (.ext (A3a a C t' (some d)))) d (.xd [(f,v)])) E0:=
   ⟨a,t',v,rfl,A6,fun d nd nda=>⟨rfl,d,by rw[D5 nda] at nd;exact nd,nda,rfl⟩⟩
 have rr:J1 [.ref a,v] [.ref a,u]:= .cons rfl (.cons ru .nil)
 have hl:([Value.ref a,u]++ []).length=ps.length:=by
   have:=G.len _ _ _ _ sp0
   rw[<-this];rfl
 refine wpAny_call (codeAny_mono (G.run _ X.stack _ _ ⟨[.ref a,u],[]⟩ ([.ref a,u]++ []) [.ref a,v] _ E0 ((hr.mono hj).make C [u] []) (I3.env0.make C [u] []) (bI _ [.ref a,u] I3.kIn hl) rr sp0) fun r s' hq=>?_)
 cases r with
 |error e=>exact hq.elim
 | ok fl=>
   cases fl with
   | ret u0=>
     obtain⟨v0,H',I4,rv,ev,d,nd,nda,eH⟩:=I3.after hq
     subst ev eH
     have ea:(upd (upd (upd H1 a (.ext (A3a a C t' none))) a (.ext (A3a a C t' (some d)))) d (.xd [(f,v)])) a=some (.ext (A3a a C t' (some d))):=by
       rw[D5 (Ne.symm nda),A6]
     have g1:s'.heap.get? a=some (Z0 (.ref C) t' (some d) .none):=(I4.hok a _ ea).1
     refine⟨rv,I4.kIn _ _ lC,⟨t',some d,g1⟩,?_⟩
     refine hx pins σ _ s' a t' (.ref C) (some d) (I4.forget ea) ⟨I1.nw hex m.new B2c,.none,g1,.inl rfl,fun T z=>nomatch z⟩ (z d _ (fun b ob q=>?_) nd ?_)
     . have nb:b≠a:=C9 q na
       have nbd:b≠d:=C9 q nd
       rw[A4r nb,D5 nbd,D5 nb,D5 nb]
       exact q
     . rw[A4r nda,A6]
   |next=>exact hq.elim
   |brk=>exact hq.elim
   |cont=>exact hq.elim
end
theorem D3r{prog:Program}{w:World}{A:Around}{E:Value ->Shared ->Prop}{s:Shared}{K:Frag}{a C:Addr}{oa:Obj}{od:Option Obj}{name:Str}{v:Value}{b:Bool}{Q:Value ->Shared ->Prop}(F:C1b K C)(X:K.In s.heap)(I:PySem.W.InstAt s.heap a oa C od)
   (hf:findObj K C od name=some (.value v)) (hh:handedIn v=true) (h:Q v {s with toks:=s.toks+1}):wpAny (model prog w) A (getAttr (.ref a) name b) Q E s:=by
 obtain⟨hp,g,d,t,os⟩:=s
 have L0:=I.type (M:=model prog w)
 have L1:=looks_findIn (M:=model prog w) X F.ga
 have L2:=looks_findIn (M:=model prog w) X F.gh
 have L3:Looks (model prog w) hp (isInstance (.ref a) (.type "BaseException")) true:=L0.andThen (looks_subIn X F.be)
 have L4:=looks_find (M:=model prog w) X I hf
 have hk:builtinKind "BaseException.__getattribute__"=some .slot:=by decide+kernel
 have hsplit:splitId "BaseException.__getattribute__"=some ("BaseException","__getattribute__"):=by decide+kernel
 have hargs:=PySem.F.args_bexc_ga (.ref a) (.str name t)
 have hb:=PySem.F.attr_ValueError.ga.bind (.ref a)
 unfold getAttr getAttrBy
 refine wpAny_bind (wpAny_mkText (wpAny_holding (wpAny_bind (L0.at (wpAny_bind (L1.at ?_))))))
 dsimp only
 rw[if_neg (show¬((onTheHeap (Value.ref C)&&Value.builtin "BaseException.__getattribute__"==Value.builtin "object.__getattribute__")=true) by
   rw[show(Value.builtin "BaseException.__getattribute__"==Value.builtin "object.__getattribute__")=false by decide+kernel,Bool.and_false];exact Bool.false_ne_true)]
 unfold getAttrByItsOwn
 refine wpAny_bind (m:=hookBefore (.ref C)) (L2.at ?_)
 refine wpAny_bind (wpAny_attempt (wpAny_holding ?_))
 unfold callGetattribute
 rw[if_neg (show¬((b&&onTheHeap (Value.builtin "BaseException.__getattribute__"))=true) by
   rw[show onTheHeap (Value.builtin "BaseException.__getattribute__")=false from rfl,Bool.and_false];exact Bool.false_ne_true)]
 unfold boundAndCalled
 rw[hb]
 refine wpAny_bind (wpAny_pure ?_)
 refine wpAny_call (codeAny_call_builtin PySem.F.attr_ValueError.ga.plain PySem.F.entry_bexc_ga ?_)
 have chk:∀{A':Around} {Q':Unit ->Shared ->Prop} {E':Value ->Shared ->Prop},Q' () ⟨hp,g,d,t+1,os⟩ ->wpAny (model prog w) A' (checkBuiltinCall "BaseException.__getattribute__" ⟨[.ref a,.str name t],[]⟩) Q' E' ⟨hp,g,d,t+1,os⟩:=by
   intro A' Q' E' hq
   simp only[checkBuiltinCall,hk,hsplit]
   refine wpAny_bind ?_
   refine L3.at ?_
   repeat (first|assumption|wp_step)
 refine chk ?_
 show wpAny _ _ (Builtin.«object.__getattribute__» ⟨[.ref a, .str name t], []⟩) _ _ _
 unfold Builtin.«object.__getattribute__»
 refine wpAny_bind (wpAny_pure ?_)
 refine wpAny_bind (wpAny_pure ?_)
 refine wpAny_bind (L0.at (wpAny_bind (L4.at ?_)))
 dsimp only
 refine wpAny_pure ?_
 exact handed_on hh h
noncomputable def G4p (K:Frag) (ta:TE) (f:Str):TE:=fun σ H Q=>ta σ H fun x H1=>∃a C t T d u fs v,x= .ref a/\H1 a=some (.frz (Z0 (.ref C) t (some d) T) u)/\H1 d=some (.xd fs)/\C1b K C/\(∃cd,clsIn K C=some cd/\cd.hasDict=true)/\findIn K (.ref C) f=some none/\fs.lookup f=some v/\Q v H1
section
variable{X:Cx}{e:Expr}{f:Str}{pos:Pos}{ta:TE}
theorem G3z(he:PE X e ta)(hb:attributeBase e f X.env (eval e X.env)=eval e X.env):PE X (.Attribute e f pos) (G4p X.K ta f):=by
 intro pins s σ H Q I h
 refine C4x hb (thn (he pins s σ H _ I h) fun u s1 hh_=>?_)
 obtain⟨x,H1,I1,rx,a,C,t,T,d,u0,fs,v,ex,ea,hd,k,⟨cd,hc,hD⟩,hn,l,q⟩:=hh_
 subst ex
 obtain rfl:u=Value.ref a:=rx
 have o1:s1.heap.get? a=some (Z0 (.ref C) t (some d) T):=(I1.hok a _ ea).1
 obtain⟨mA,nA,rA⟩:=(show∃mA,s1.heap.Ns1 d mA/\∀f,A3x (fs.lookup f) (mA f) from I1.hok d _ hd)
 obtain⟨od,o2,lk⟩:=A9g nA
 obtain⟨uv,hu,ru⟩:=A3x.some_of (v:=v) (o:=mA f) (by rw[<-l];exact rA f)
 have J:PySem.W.InstAt s1.heap a (Z0 (.ref C) t (some d) T) C (some od):=⟨o1,rfl,rfl,o2⟩
 have hf:findObj X.K C (some od) f=some (.value uv):=by
   unfold findObj
   rw[hc,Option.bind_some,hn,Option.bind_some]
   show((PySem.W.ownOf cd (some od) f).bind _)=_
   unfold PySem.W.ownOf
   rw[hD,if_pos rfl]
   show((lookIn f od).bind _)=_
   rw[lk f,hu]
   rfl
 exact D3r k I1.kIn J hf (B5b ru) ⟨v,H1,I1.tok _,ru,q⟩
end
section
variable{X:Cx}
end
section
variable{X:Cx}
noncomputable def J2h:V ->List V ->Hp ->VK ->Prop:=fun x vs H Q=>∃i,x= .int i/\vs=[]/\Q (.int ((Builtin.Int.intBits i:Nat):Int)) H
theorem A6s:MtR X "int.bit_length" J2h:=by
 intro pins s σ H x xs v us Q I rx rs h
 obtain⟨i,rfl,rfl,q⟩:=h
 obtain⟨t,rfl⟩:=rx
 cases rs
 exact call_int_bit_length ⟨.int _,H,I.tok _,⟨_,rfl⟩,q⟩
end
section
variable{X:Cx}{a b:Expr}{rest:List Expr}{pos:Pos}{ta tb:TE}
end
section
variable{X:Cx}{j k:Nat}{f C:Addr}{fd:FuncData}{ps:List Str}{sp:Sp}{dvs:List V}{ds:List Value}{x m:Str}{p pos apos:Pos}{e o:Expr}{es:List Expr}{ta:TE}{t:TA}{st:Stmt}
theorem G1e{pins:List (Addr×Obj)}{σ:St}{H:Hp}{s:Shared}{Q:VK}{us:List Value}{vs:List V}(F:A8 X.prog X.w X.K X.mg X.base (CX1 X.prog X.w) k f fd ps sp)(hr:A0j k X.A)(hb:Binds X.K fd ps ds)(hd:J1 dvs ds)
   (I:Inv X pins σ H s) (r:J1 vs us) (h:sp (vs++dvs) H Q (fun C d H'=>EKF C d σ H')):wpAny (model X.prog X.w) X.A (call (.ref f) us) (EP X pins σ Q) X.xe s:=by
 have r2:J1 (vs++dvs) (us++ds):=r.append hd
 have hl:(us++ds).length=ps.length:=by rw[<-r2.length];exact F.len _ _ _ _ h
 refine wpAny_call (codeAny_mono (F.run X.A X.stack s H ⟨us,[]⟩ (us++ds) (vs++dvs) Q _ hr I.env0 (hb s us I.kIn hl) r2 h) fun r s' hq=>?_)
 cases r with
 | error e=>
   obtain⟨a,t,C,dd,H',_,_,_,_,_,hE,_⟩:=hq
   exact False.elim hE
 | ok fl=>
   cases fl with
   |ret u=>exact I.after hq
   |next=>exact False.elim hq
   |brk=>exact False.elim hq
   |cont=>exact False.elim hq
theorem G7p(D:Def X.K X.mg x ps st f fd)(F:A8 X.prog X.w X.K X.mg X.base (CX1 X.prog X.w) j f fd ps sp)(hr:A0j k X.A)(ha:PA X (e::es) t)(hj:j<=k:=by decide)(hg:Gl X x:=by rfl)(hdb:(x==("__debug__":Str))=false:=by decide)
   (he:starEach (e::es) X.env=(false,eval e X.env)::starEach es X.env:=by rfl) (hpl:(backTo pos (starEach es X.env)).any (·.1)=false:=by rfl):PE X (.Call (.Name x p) (e::es) [] pos) (B2r sp [] EKF t):=by
 intro pins s σ H Q I h
 refine wpAny_Call_Name_kw (A1w I hg D.g ?_ hdb)
 refine PySem.W.callWith_K (h₀:=X.base) I.ok.mod.kin D.F.kp (thn (ha pos pins s σ H _ I h) fun us s1 ⟨vs,H1,I1,r,q⟩=>⟨I1.kIn,?_⟩) he hpl
 exact G1e (F.mono hj) hr D.b .nil I1 r q
end
section
variable{X:Cx}{N F:List Str}{js:List Nat}{scope:Scope}
theorem B5a{pins:List (Addr×Obj)}{σ:St}{H:Hp}{s:Shared}{fp:List Addr}{h':Heap}(S:G5 N F js scope X.N X.env)(I:Inv X pins σ H s)(hf:∀b∈fp,A5q X pins H b)(hit:∀b∈fp,∃o,s.heap.get? b=some o)(hnb:∀b∈fp,X.base.get? b=none)
   (hns:h'.Ns s.heap.objs.size (fun _=>none)) (hsb:∀b o,s.heap.get? b=some o ->h'.get? b=some o) {tk:Nat}:
   Inv (X.compF scope N F s.heap.objs.size s H fp (X.pn++pins)) [] (List.replicate N.length none++A7d js σ) H {s with heap:=h',toks:=tk}:=by
 have ck:∀c v,s.heap.IsCell c v ->h'.IsCell c v:=fun c v ⟨o,e,d⟩=>⟨o,hsb _ _ e,d⟩
 have inF:∀x,((compEnvC scope (A3e F X.env) s.heap.objs.size X.env).kindOf x=some .cell\/(compEnvC scope (A3e F X.env) s.heap.objs.size X.env).kindOf x=some .free) ->x∈F:=by
   intro x z
   have z:(relabel scope X.env).names.lookup x=some .cell\/(relabel scope X.env).names.lookup x=some .free:=z
   rcases z with z|z
   . exact S.fr _ (PySem.mem_of_lookup z) (.inl rfl)
   . exact S.fr _ (PySem.mem_of_lookup z) (.inr rfl)
 refine⟨⟨I.ok.mod,S.kind,I.ok.glob,I.ok.blt,Nat.le_refl _,fun x y c z z'=>I.ok.inj x y c (S.sub x c z) (S.sub y c z'),fun x z=>?_,fun x c z _=>(nomatch z),I.ok.hd,I.ok.frames,.inl rfl,fun b hb=>?_,I.bs,Nat.le_trans I.ok.bsz I.sz,fun b o e hb=>?_,fun b hb hfs=>?_,I.stack,I.stkFree⟩,
   rfl,I.bare,Un.kept hsb,⟨_,hns,fun i x v e1 e2 e3=>B4z S I (fun x c v _ z=>ck c v z) i x v e1 e2⟩,fun x c z=>?_,I.hok.fresh (Nat.le_refl _),fun x c z=>I.freeC x c (S.sub x c z),fun p hp=>?_,I.hok.kept hsb,D3n S σ⟩
 . obtain⟨c,h1,_⟩:=S.has (inF x z)
   exact⟨c,h1⟩
 . obtain⟨oi,ei⟩:=hit b hb
   exact⟨Nat.ne_of_lt (Heap.lt_size ei),fun x c z=>(hf b hb).2.2.2.2.1 x c (S.sub x c z)⟩
 . rw[hnb b hb] at e
   cases e
 . rcases List.mem_cons.mp (I.stkSub b hfs) with z|z
   . exact(hf b hb).2.1 z
   . exact(hf b hb).2.2.1 z
 . obtain⟨v,z'⟩:=I.cell x c (S.sub x c z)
   exact⟨v,ck c v z'⟩
 have hp':p∈X.pn++pins:=by simpa using hp
 obtain⟨q1,q2,q3,q4,q5⟩:=I.pin p hp'
 refine⟨hsb _ _ q1,q2,Nat.ne_of_lt (Heap.lt_size q1),fun z=>?_,q5⟩
 rcases List.mem_cons.mp (I.stkSub p.1 z) with z|z
 . exact q3 z
 exact q4 z
theorem B3r{pins pl:List (Addr×Obj)}{σ σ':St}{H H':Hp}{s s':Shared}{fp:List Addr}(S:G5 N F js scope X.N X.env)(I:Inv X pins σ H s)(hf:∀b∈fp,A5q X pins H b)(J:Inv (X.compF scope N F s.heap.objs.size s H fp (X.pn++pins)) pl σ' H' s'):
   Inv (X.compF scope N F s.heap.objs.size s H fp (X.pn++pins)) [] (List.replicate N.length none++A7d js σ) H' s':=by
 obtain⟨m,hn,_⟩:=J.loc
 refine⟨J.ok,J.os,J.bare,J.base,⟨m,hn,fun i x v e1 e2 e3=>B4z S I (fun x c v z q=>?_) i x v e1 e2⟩,J.cell,J.free,J.freeC,fun p hp=>J.pin p (by
   have hp:p∈(X.pn++pins)++ []:=hp
   rw[List.append_nil] at hp
   exact List.mem_append_left _ hp),J.hok,D3n S σ⟩
 obtain⟨o,e,d⟩:=q
 have ne:c ∉ fp:=fun w=>(hf c w).2.2.2.2.1 x c z rfl
 obtain⟨sl,q⟩:=J.base.any e (I.freeC x c z) ne
 exact⟨_,q,d⟩
theorem B4d{elt target iter c:Expr}{scope:Scope}{pos:Pos}{N F:List Str}{js:List Nat}{wi:TI}{g:TG}{tc:TT}{te:TE}(S:G5 N F js scope X.N X.env)(hd:A2u X)(hc0:X.calm=true)(hi:PI X target iter wi)(hex:X.ex=[])
   (hg:∀C s₀ H₀ ex pn,A2u (X.compF scope N F C s₀ H₀ ex pn) ->PG (X.compF scope N F C s₀ H₀ ex pn) target g)
   (hc:∀C s₀ H₀ ex pn,A2u (X.compF scope N F C s₀ H₀ ex pn) ->PT (X.compF scope N F C s₀ H₀ ex pn) c tc)
   (he:∀C s₀ H₀ ex pn,A2u (X.compF scope N F C s₀ H₀ ex pn) ->PE (X.compF scope N F C s₀ H₀ ex pn) elt te)
   {pins:List (Addr×Obj)} {s:Shared} {σ:St} {H:Hp} {Q:VK} {RR:Value ->Env ->Result ->Shared ->Prop} (I:Inv X pins σ H s) (h:(B8q N.length js wi g tc te) σ H Q)
   (hRR:∀(D C:Addr) (s6:Shared) (H5:Hp) (mm:Str ->Option Value),Inv X pins σ H5 s6 ->s6.heap.Ns C mm ->A5q X pins H5 C ->Q (.ref D) H5 ->RR (.ref D) (compEnvC scope (A3e F X.env) C X.env) (.ok .next) s6):
   wpAny (model X.prog X.w) X.A (eval iter X.env) (fun v s1=>wpAny (model X.prog X.w) X.A (pyIter v) (fun itv s2=>wpAny (model X.prog X.w) X.A (newList []) (fun acc s3=>wpAny (model X.prog X.w) X.A (newFunctionEnv scope X.env.globals (A3e F X.env) [] X.env.qual none .none (some X.env)) (fun cenv s4=>
     codeAny (model X.prog X.w) X.A (.compStart (.ListComp elt [⟨target,iter,[c],0⟩] scope pos) 0 itv acc {cenv with scope:=relabel scope X.env}) (RR acc {cenv with scope:=relabel scope X.env}) s4) X.xe s3) X.xe s2) X.xe s1) X.xe s:=by
 refine thn (hi pins s σ H _ I h) fun v s1 h1=>thn h1 fun itv s2 h2=>?_
 obtain⟨it,fp,tn,J,H2,rfl,I2,T,st2,f2,R⟩:=h2
 have ob2:=T.obj _ _ st2
 have hf2:=I2.hok.fresh (Nat.le_refl _)
 refine wpAny_newObj_type ?_
 have I3:Inv X pins σ (upd H2 s2.heap.objs.size (.lst [])) {s2 with heap:=s2.heap.push {cls:= .type "list",dict:=none,data:= .seq ([]:List Value).toArray}}:=Inv.lnew (t':=s2.toks) I2 .nil (Nat.zero_le _)
 refine wpAny_newFunctionEnv S.cell (by intro y hy;simp at hy) (fun h4 hns hsb=>?_) S.kind
 dsimp only at hns hsb ⊢
 generalize hG:s2.heap.push {cls:= .type "list",dict:=none,data:= .seq ([]:List Value).toArray}=G at I3 hns hsb ⊢
 generalize hD:s2.heap.objs.size=D at I3 hf2
 have nD:∀b∈fp,b≠D:=fun b hb=>by
   obtain⟨o,eo,_⟩:=ob2 b hb
   rw[<-hD];exact Nat.ne_of_lt (Heap.lt_size eo)
 have eiG:∀b∈fp,∃o,G.get? b=some o:=fun b hb=>by
   obtain⟨o,eo,_⟩:=ob2 b hb
   exact⟨o,by rw[<-hG];exact Heap.get?_push_of_some _ eo⟩
 have kp:∀b o,G.get? b=some o ->h4.get? b=some o:=fun b o e=>hsb.extBut b o (Nat.ne_of_lt (Heap.lt_size e)) (Heap.get?_push_of_some _ e)
 have f3:∀b∈fp,A5q X pins (upd H2 D (.lst [])) b:=fun b hb=>⟨by rw[D5 (nD b hb)];exact(f2 b hb).1,(f2 b hb).2⟩
 have nb:∀b∈fp,X.base.get? b=none:=fun b hb=>by
   cases q:X.base.get? b with
   |none=>rfl
   | some o=>
     have:=(I.ok.bs b o q).1
     rcases(f2 b hb).2.2.2.1 with z|z
     . rw[hex] at z;simp at z
     . exact absurd (Nat.lt_of_lt_of_le (Heap.lt_size this) z) (Nat.lt_irrefl _)
 have hns':h4.Ns G.objs.size (fun _=>none):=by
   obtain⟨o,es,ep,q1,q2,q3,q4⟩:=hns
   exact⟨o,es,ep,q1,q2,q3,fun x=>by rw[q4];rfl⟩
 have I4:=B5a (tk:=s2.toks+([]:List (Str×Value)).length) S I3 f3 eiG nb hns' kp
 have hdc:A2u (X.compF scope N F G.objs.size {s2 with heap:=G} (upd H2 D (.lst [])) fp (X.pn++pins)):=by
   rcases hd with z|⟨x,o,u,vs,z,e,d,n⟩
   . exact .inl z
   . refine .inr ⟨x,o,u,vs,z,?_,d,n⟩
     have q:=I2.base.frzs x o u e
     show upd H2 D (.lst []) x=_
     rw[D5 fun w=>by rw[w,hf2] at q;cases q]
     exact q
 obtain⟨m,W,w0,turn⟩:=R D hf2
 have gg:=hg _ _ _ _ _ hdc
 have cc:=hc _ _ _ _ _ hdc
 have ee:=he _ _ _ _ _ hdc
 have fpc:∀{H':Hp} {σ':St} {s':Shared} {pl:List (Addr×Obj)},Inv (X.compF scope N F G.objs.size {s2 with heap:=G} (upd H2 D (.lst [])) fp (X.pn++pins)) pl σ' H' s' ->(∀b∈fp,H' b=none) ->(∀b∈fp,∀p∈pl,p.1≠b) ->∀b∈fp,A5q (X.compF scope N F G.objs.size {s2 with heap:=G} (upd H2 D (.lst [])) fp (X.pn++pins)) pl H' b:=by
   intro H' σ' s' pl J' hn hp b hb
   obtain⟨oi,ei⟩:=eiG b hb
   refine⟨hn b hb,Nat.ne_of_lt (Heap.lt_size ei),?_,.inl hb,(fun x c z=>(f2 b hb).2.2.2.2.1 x c (S.sub x c z)),fun p hpp=>?_⟩
   . intro z
     rcases List.mem_cons.mp (I.stkSub b z) with z|z
     . exact(f2 b hb).2.1 z
     . exact(f2 b hb).2.2.1 z
   . rcases List.mem_append.mp hpp with z|z
     . exact(f2 b hb).2.2.2.2.2 p z
     . exact hp b hb p z
 have loop:codeAny (model X.prog X.w) X.A (.compLoop (.ListComp elt [⟨target,iter,[c],0⟩] scope pos) 0 (.ref it) (.ref D) (compEnvC scope (A3e F X.env) G.objs.size X.env))
     (RR (.ref D) (compEnvC scope (A3e F X.env) G.objs.size X.env))
     {s2 with heap:=h4,toks:=s2.toks+([]:List (Str×Value)).length}:=by
   refine kct_loop (fun k s'=>∃i ys H',k=m+1-i/\Inv (X.compF scope N F G.objs.size {s2 with heap:=G} (upd H2 D (.lst [])) fp (X.pn++pins)) [] (List.replicate N.length none++A7d js σ) H' s'/\tn i s'.heap/\(∀b∈fp,H' b=none)/\W i ys H') ?_ (m+1)
     ⟨0,[],_,rfl,I4,T.keep _ _ _ st2 fun b hb o e=>kp b o (by rw[<-hG];exact Heap.get?_push_of_some _ e),fun b hb=>(f3 b hb).1,w0⟩
   rintro k s5 ⟨i,ys,H5,rfl,I5,st5,n5,w5⟩
   obtain⟨hi5,hD5,w5⟩:=turn i ys H5 w5
   rcases w5 with⟨stop,q⟩|⟨lt5,go,step⟩
   . refine wpAny_mono (T.done (X.compF scope N F G.objs.size {s2 with heap:=G} (upd H2 D (.lst [])) fp (X.pn++pins)) rfl rfl rfl hc0 i [] s5 _ H5 (fun _ _=>False) I5 (fpc I5 n5 (by simp)) st5 stop) (fun r s6 z=>?_) (fun _ _ z=>z.elim)
     obtain⟨rfl,I6⟩:=z
     obtain⟨mm,hn6,_⟩:=I6.loc
     have B6:=I6.base
     have J6:Inv X pins σ H5 s6:=by
       refine I3.call' (ch:=fp) I6.os ⟨B6.keep,B6.slot,B6.free,B6.there,B6.tups,B6.frzs,B6.tbls⟩ I6.hok I6.bare (fun b hb=>⟨(f2 b hb).2.2.2.1,(f2 b hb).2.1,(f2 b hb).2.2.2.2.1,(f2 b hb).2.2.2.2.2⟩)
     have szG:X.s₀.heap.objs.size<=G.objs.size:=I3.sz
     refine hRR D G.objs.size s6 H5 mm J6 hn6 ⟨I6.free,?_,?_,.inr szG,?_,?_⟩ q
     . exact Nat.ne_of_gt I3.lt
     . intro z
       obtain⟨_,o,ho,_⟩:=I3.funs.mem z
       exact Nat.lt_irrefl _ (Heap.lt_size ho)
     . rintro x c z rfl
       obtain⟨v',o,ho,_⟩:=I3.cell x _ z
       exact Nat.lt_irrefl _ (Heap.lt_size ho)
     . rintro p hp z
       have zz:=(I3.pin p hp).1
       rw[z] at zz
       exact Nat.lt_irrefl _ (Heap.lt_size zz)
   . refine wpAny_mono (T.item (X.compF scope N F G.objs.size {s2 with heap:=G} (upd H2 D (.lst [])) fp (X.pn++pins)) rfl rfl rfl hc0 i [] s5 _ H5 (fun _ _=>False) I5 (fpc I5 n5 (by simp)) st5 go) (fun r s6 z=>?_) (fun _ _ z=>z.elim)
     obtain⟨u,rfl,z⟩:=z
     refine wpAny_mono z (fun _ s7 z=>?_) (fun _ _ z=>z.elim)
     obtain⟨x,H7,I7,rx,yl,st7,fr7⟩:=z
     have ob7:=T.obj _ _ st7
     have I7':Inv (X.compF scope N F G.objs.size {s2 with heap:=G} (upd H2 D (.lst [])) fp (X.pn++pins)) (A0s fp s7.heap) (List.replicate N.length none++A7d js σ) H7 s7:=I7.pinned (fpc I7 fr7 (by simp)) ob7
     have back:∀{i':Nat} {ys':List V} {H':Hp} {σ':St} {s':Shared},i'=i+1 ->Inv (X.compF scope N F G.objs.size {s2 with heap:=G} (upd H2 D (.lst [])) fp (X.pn++pins)) (A0s fp s7.heap) σ' H' s' ->W i' ys' H' ->
         ∃k',k'<m+1-i/\∃i ys H',k'=m+1-i/\Inv (X.compF scope N F G.objs.size {s2 with heap:=G} (upd H2 D (.lst [])) fp (X.pn++pins)) [] (List.replicate N.length none++A7d js σ) H' s'/\tn i s'.heap/\(∀b∈fp,H' b=none)/\W i ys H':=by
       rintro i' ys' H' σ' s' rfl J' w'
       refine⟨m+1-(i+1),by omega,i+1,ys',H',rfl,B3r S I3 f3 J',T.keep _ _ _ st7 fun b hb o z=>(J'.pin (b,o) (List.mem_append_right _ (A1q hb z))).1,fun b hb=>?_,w'⟩
       obtain⟨o,eo,_⟩:=ob7 b hb
       exact(J'.pin (b,o) (List.mem_append_right _ (A1q hb eo))).2.1
     refine wpAny_mono (gg (A0s fp s7.heap) s7 _ H7 x u _ I7' rx (step x H7 yl)) (fun _ s8 z=>?_) (fun _ _ z=>z.elim)
     obtain⟨σ8,H8,I8,q8⟩:=z
     refine wpAny_mono (cc (A0s fp s7.heap) s8 σ8 H8 _ I8 q8) (fun b s9 z=>?_) (fun _ _ z=>z.elim)
     obtain⟨H9,I9,q9⟩:=z
     cases b with
     | false=>
       simp only[Bool.false_eq_true,if_false] at q9 ⊢
       exact back rfl I9 q9
     | true=>
       simp only[if_true] at q9 ⊢
       refine wpAny_mono (ee (A0s fp s7.heap) s9 σ8 H9 _ I9 q9) (fun y s10 z=>?_) (fun _ _ z=>z.elim)
       obtain⟨yv,H10,I10,ry,hD10,hz10,w10⟩:=z
       refine wpAny_mono (A9j (X:=X.compF scope N F G.objs.size {s2 with heap:=G} (upd H2 D (.lst [])) fp (X.pn++pins)) (A0s fp s7.heap) s10 σ8 H10 (.ref D) [yv] (.ref D) [y] (fun _ H11=>W (i+1) (ys++ [yv]) H11) I10 rfl (.cons ry .nil) ⟨D,ys,yv,rfl,rfl,hD10,hz10,w10⟩) (fun _ s11 z=>?_) (fun _ _ z=>z.elim)
       obtain⟨_,H11,I11,_,w11⟩:=z
       exact back rfl I11 w11
 exact codeAny_compStart_list loop (T.self _ 0 _ _ _ (T.keep _ _ _ st2 fun b hb o e=>kp b o (by rw[<-hG];exact Heap.get?_push_of_some _ e)) loop)
theorem B9u{elt target iter:Expr}{scope:Scope}{pos:Pos}{N F:List Str}{js:List Nat}{wi:TI}{g:TG}{te:TE}(S:G5 N F js scope X.N X.env)(hd:A2u X)(hc0:X.calm=true)(hi:PI X target iter wi)(hex:X.ex=[])
   (hg:∀C s₀ H₀ ex pn,A2u (X.compF scope N F C s₀ H₀ ex pn) ->PG (X.compF scope N F C s₀ H₀ ex pn) target g)
   (he:∀C s₀ H₀ ex pn,A2u (X.compF scope N F C s₀ H₀ ex pn) ->PE (X.compF scope N F C s₀ H₀ ex pn) elt te)
   {pins:List (Addr×Obj)} {s:Shared} {σ:St} {H:Hp} {Q:VK} {RR:Value ->Env ->Result ->Shared ->Prop} (I:Inv X pins σ H s) (h:(C5j N.length js wi g te) σ H Q)
   (hRR:∀(D C:Addr) (s6:Shared) (H5:Hp) (mm:Str ->Option Value),Inv X pins σ H5 s6 ->s6.heap.Ns C mm ->A5q X pins H5 C ->Q (.ref D) H5 ->RR (.ref D) (compEnvC scope (A3e F X.env) C X.env) (.ok .next) s6):
   wpAny (model X.prog X.w) X.A (eval iter X.env) (fun v s1=>wpAny (model X.prog X.w) X.A (pyIter v) (fun itv s2=>wpAny (model X.prog X.w) X.A (newList []) (fun acc s3=>wpAny (model X.prog X.w) X.A (newFunctionEnv scope X.env.globals (A3e F X.env) [] X.env.qual none .none (some X.env)) (fun cenv s4=>
     codeAny (model X.prog X.w) X.A (.compStart (.ListComp elt [⟨target,iter,[],0⟩] scope pos) 0 itv acc {cenv with scope:=relabel scope X.env}) (RR acc {cenv with scope:=relabel scope X.env}) s4) X.xe s3) X.xe s2) X.xe s1) X.xe s:=by
 refine thn (hi pins s σ H _ I h) fun v s1 h1=>thn h1 fun itv s2 h2=>?_
 obtain⟨it,fp,tn,J,H2,rfl,I2,T,st2,f2,R⟩:=h2
 have ob2:=T.obj _ _ st2
 have hf2:=I2.hok.fresh (Nat.le_refl _)
 refine wpAny_newObj_type ?_
 have I3:Inv X pins σ (upd H2 s2.heap.objs.size (.lst [])) {s2 with heap:=s2.heap.push {cls:= .type "list",dict:=none,data:= .seq ([]:List Value).toArray}}:=Inv.lnew (t':=s2.toks) I2 .nil (Nat.zero_le _)
 refine wpAny_newFunctionEnv S.cell (by intro y hy;simp at hy) (fun h4 hns hsb=>?_) S.kind
 dsimp only at hns hsb ⊢
 generalize hG:s2.heap.push {cls:= .type "list",dict:=none,data:= .seq ([]:List Value).toArray}=G at I3 hns hsb ⊢
 generalize hD:s2.heap.objs.size=D at I3 hf2
 have nD:∀b∈fp,b≠D:=fun b hb=>by
   obtain⟨o,eo,_⟩:=ob2 b hb
   rw[<-hD];exact Nat.ne_of_lt (Heap.lt_size eo)
 have eiG:∀b∈fp,∃o,G.get? b=some o:=fun b hb=>by
   obtain⟨o,eo,_⟩:=ob2 b hb
   exact⟨o,by rw[<-hG];exact Heap.get?_push_of_some _ eo⟩
 have kp:∀b o,G.get? b=some o ->h4.get? b=some o:=fun b o e=>hsb.extBut b o (Nat.ne_of_lt (Heap.lt_size e)) (Heap.get?_push_of_some _ e)
 have f3:∀b∈fp,A5q X pins (upd H2 D (.lst [])) b:=fun b hb=>⟨by rw[D5 (nD b hb)];exact(f2 b hb).1,(f2 b hb).2⟩
 have nb:∀b∈fp,X.base.get? b=none:=fun b hb=>by
   cases q:X.base.get? b with
   |none=>rfl
   | some o=>
     have:=(I.ok.bs b o q).1
     rcases(f2 b hb).2.2.2.1 with z|z
     . rw[hex] at z;simp at z
     . exact absurd (Nat.lt_of_lt_of_le (Heap.lt_size this) z) (Nat.lt_irrefl _)
 have hns':h4.Ns G.objs.size (fun _=>none):=by
   obtain⟨o,es,ep,q1,q2,q3,q4⟩:=hns
   exact⟨o,es,ep,q1,q2,q3,fun x=>by rw[q4];rfl⟩
 have I4:=B5a (tk:=s2.toks+([]:List (Str×Value)).length) S I3 f3 eiG nb hns' kp
 have hdc:A2u (X.compF scope N F G.objs.size {s2 with heap:=G} (upd H2 D (.lst [])) fp (X.pn++pins)):=by
   rcases hd with z|⟨x,o,u,vs,z,e,d,n⟩
   . exact .inl z
   . refine .inr ⟨x,o,u,vs,z,?_,d,n⟩
     have q:=I2.base.frzs x o u e
     show upd H2 D (.lst []) x=_
     rw[D5 fun w=>by rw[w,hf2] at q;cases q]
     exact q
 obtain⟨m,W,w0,turn⟩:=R D hf2
 have gg:=hg _ _ _ _ _ hdc
 have ee:=he _ _ _ _ _ hdc
 have fpc:∀{H':Hp} {σ':St} {s':Shared} {pl:List (Addr×Obj)},Inv (X.compF scope N F G.objs.size {s2 with heap:=G} (upd H2 D (.lst [])) fp (X.pn++pins)) pl σ' H' s' ->(∀b∈fp,H' b=none) ->(∀b∈fp,∀p∈pl,p.1≠b) ->∀b∈fp,A5q (X.compF scope N F G.objs.size {s2 with heap:=G} (upd H2 D (.lst [])) fp (X.pn++pins)) pl H' b:=by
   intro H' σ' s' pl J' hn hp b hb
   obtain⟨oi,ei⟩:=eiG b hb
   refine⟨hn b hb,Nat.ne_of_lt (Heap.lt_size ei),?_,.inl hb,(fun x c z=>(f2 b hb).2.2.2.2.1 x c (S.sub x c z)),fun p hpp=>?_⟩
   . intro z
     rcases List.mem_cons.mp (I.stkSub b z) with z|z
     . exact(f2 b hb).2.1 z
     . exact(f2 b hb).2.2.1 z
   . rcases List.mem_append.mp hpp with z|z
     . exact(f2 b hb).2.2.2.2.2 p z
     . exact hp b hb p z
 have loop:codeAny (model X.prog X.w) X.A (.compLoop (.ListComp elt [⟨target,iter,[],0⟩] scope pos) 0 (.ref it) (.ref D) (compEnvC scope (A3e F X.env) G.objs.size X.env))
     (RR (.ref D) (compEnvC scope (A3e F X.env) G.objs.size X.env))
     {s2 with heap:=h4,toks:=s2.toks+([]:List (Str×Value)).length}:=by
   refine D0h (fun k s'=>∃i ys H',k=m+1-i/\Inv (X.compF scope N F G.objs.size {s2 with heap:=G} (upd H2 D (.lst [])) fp (X.pn++pins)) [] (List.replicate N.length none++A7d js σ) H' s'/\tn i s'.heap/\(∀b∈fp,H' b=none)/\W i ys H') ?_ (m+1)
     ⟨0,[],_,rfl,I4,T.keep _ _ _ st2 fun b hb o e=>kp b o (by rw[<-hG];exact Heap.get?_push_of_some _ e),fun b hb=>(f3 b hb).1,w0⟩
   rintro k s5 ⟨i,ys,H5,rfl,I5,st5,n5,w5⟩
   obtain⟨hi5,hD5,w5⟩:=turn i ys H5 w5
   rcases w5 with⟨stop,q⟩|⟨lt5,go,step⟩
   . refine wpAny_mono (T.done (X.compF scope N F G.objs.size {s2 with heap:=G} (upd H2 D (.lst [])) fp (X.pn++pins)) rfl rfl rfl hc0 i [] s5 _ H5 (fun _ _=>False) I5 (fpc I5 n5 (by simp)) st5 stop) (fun r s6 z=>?_) (fun _ _ z=>z.elim)
     obtain⟨rfl,I6⟩:=z
     obtain⟨mm,hn6,_⟩:=I6.loc
     have B6:=I6.base
     have J6:Inv X pins σ H5 s6:=by
       refine I3.call' (ch:=fp) I6.os ⟨B6.keep,B6.slot,B6.free,B6.there,B6.tups,B6.frzs,B6.tbls⟩ I6.hok I6.bare (fun b hb=>⟨(f2 b hb).2.2.2.1,(f2 b hb).2.1,(f2 b hb).2.2.2.2.1,(f2 b hb).2.2.2.2.2⟩)
     have szG:X.s₀.heap.objs.size<=G.objs.size:=I3.sz
     refine hRR D G.objs.size s6 H5 mm J6 hn6 ⟨I6.free,?_,?_,.inr szG,?_,?_⟩ q
     . exact Nat.ne_of_gt I3.lt
     . intro z
       obtain⟨_,o,ho,_⟩:=I3.funs.mem z
       exact Nat.lt_irrefl _ (Heap.lt_size ho)
     . rintro x c z rfl
       obtain⟨v',o,ho,_⟩:=I3.cell x _ z
       exact Nat.lt_irrefl _ (Heap.lt_size ho)
     . rintro p hp z
       have zz:=(I3.pin p hp).1
       rw[z] at zz
       exact Nat.lt_irrefl _ (Heap.lt_size zz)
   . refine wpAny_mono (T.item (X.compF scope N F G.objs.size {s2 with heap:=G} (upd H2 D (.lst [])) fp (X.pn++pins)) rfl rfl rfl hc0 i [] s5 _ H5 (fun _ _=>False) I5 (fpc I5 n5 (by simp)) st5 go) (fun r s6 z=>?_) (fun _ _ z=>z.elim)
     obtain⟨u,rfl,z⟩:=z
     refine wpAny_mono z (fun _ s7 z=>?_) (fun _ _ z=>z.elim)
     obtain⟨x,H7,I7,rx,yl,st7,fr7⟩:=z
     have ob7:=T.obj _ _ st7
     have I7':Inv (X.compF scope N F G.objs.size {s2 with heap:=G} (upd H2 D (.lst [])) fp (X.pn++pins)) (A0s fp s7.heap) (List.replicate N.length none++A7d js σ) H7 s7:=I7.pinned (fpc I7 fr7 (by simp)) ob7
     have back:∀{i':Nat} {ys':List V} {H':Hp} {σ':St} {s':Shared},i'=i+1 ->Inv (X.compF scope N F G.objs.size {s2 with heap:=G} (upd H2 D (.lst [])) fp (X.pn++pins)) (A0s fp s7.heap) σ' H' s' ->W i' ys' H' ->
         ∃k',k'<m+1-i/\∃i ys H',k'=m+1-i/\Inv (X.compF scope N F G.objs.size {s2 with heap:=G} (upd H2 D (.lst [])) fp (X.pn++pins)) [] (List.replicate N.length none++A7d js σ) H' s'/\tn i s'.heap/\(∀b∈fp,H' b=none)/\W i ys H':=by
       rintro i' ys' H' σ' s' rfl J' w'
       refine⟨m+1-(i+1),by omega,i+1,ys',H',rfl,B3r S I3 f3 J',T.keep _ _ _ st7 fun b hb o z=>(J'.pin (b,o) (List.mem_append_right _ (A1q hb z))).1,fun b hb=>?_,w'⟩
       obtain⟨o,eo,_⟩:=ob7 b hb
       exact(J'.pin (b,o) (List.mem_append_right _ (A1q hb eo))).2.1
     refine wpAny_mono (gg (A0s fp s7.heap) s7 _ H7 x u _ I7' rx (step x H7 yl)) (fun _ s8 z=>?_) (fun _ _ z=>z.elim)
     obtain⟨σ8,H8,I8,q8⟩:=z
     refine wpAny_mono (ee (A0s fp s7.heap) s8 σ8 H8 _ I8 q8) (fun y s10 z=>?_) (fun _ _ z=>z.elim)
     obtain⟨yv,H10,I10,ry,hD10,hz10,w10⟩:=z
     refine wpAny_mono (A9j (X:=X.compF scope N F G.objs.size {s2 with heap:=G} (upd H2 D (.lst [])) fp (X.pn++pins)) (A0s fp s7.heap) s10 σ8 H10 (.ref D) [yv] (.ref D) [y] (fun _ H11=>W (i+1) (ys++ [yv]) H11) I10 rfl (.cons ry .nil) ⟨D,ys,yv,rfl,rfl,hD10,hz10,w10⟩) (fun _ s11 z=>?_) (fun _ _ z=>z.elim)
     obtain⟨_,H11,I11,_,w11⟩:=z
     exact back rfl I11 w11
 exact codeAny_compStart_list loop (T.self _ 0 _ _ _ (T.keep _ _ _ st2 fun b hb o e=>kp b o (by rw[<-hG];exact Heap.get?_push_of_some _ e)) loop)
theorem A8w{elt target iter:Expr}{c:Expr}{tc:TT}{pos:Pos}{wi:TI}{g:TG}{te:TE}(S:G5 N F js scope X.N X.env)(hd:A2u X)(hc0:X.calm=true)(hi:PI X target iter wi)(hex:X.ex=[])
   (hg:∀C s₀ H₀ ex pn,A2u (X.compF scope N F C s₀ H₀ ex pn) ->PG (X.compF scope N F C s₀ H₀ ex pn) target g)
   (hc:∀C s₀ H₀ ex pn,A2u (X.compF scope N F C s₀ H₀ ex pn) ->PT (X.compF scope N F C s₀ H₀ ex pn) c tc)
   (he:∀C s₀ H₀ ex pn,A2u (X.compF scope N F C s₀ H₀ ex pn) ->PE (X.compF scope N F C s₀ H₀ ex pn) elt te)
   (hs:∀x,foldedSetIterable iter X.env x=pure x:=by intro _;rfl):PE X (.ListComp elt [⟨target,iter,[c],0⟩] scope pos) (B8q N.length js wi g tc te):=by
 intro pins s σ H Q I h
 rw[eval_ListComp]
 refine wpAny_comprehension_free (use:=none) rfl hs S.clos S.kind S.loc (B4d S hd hc0 hi hex hg hc he I h (RR:=fun acc ce r s'=>compPost (model X.prog X.w) X.A X.xe none (EP X pins σ Q) acc ce.locals r s') ?_)
 intro D C s6 H5 mm I6 n6 f6 q
 exact⟨mm,n6,fun h' sb=>⟨.ref D,H5,D2g I6 f6 sb,rfl,q⟩⟩
theorem C8k{elt target iter:Expr}{pos:Pos}{wi:TI}{g:TG}{te:TE}(S:G5 N F js scope X.N X.env)(hd:A2u X)(hc0:X.calm=true)(hi:PI X target iter wi)(hex:X.ex=[])
   (hg:∀C s₀ H₀ ex pn,A2u (X.compF scope N F C s₀ H₀ ex pn) ->PG (X.compF scope N F C s₀ H₀ ex pn) target g)
   (he:∀C s₀ H₀ ex pn,A2u (X.compF scope N F C s₀ H₀ ex pn) ->PE (X.compF scope N F C s₀ H₀ ex pn) elt te)
   (hs:∀x,foldedSetIterable iter X.env x=pure x:=by intro _;rfl):PE X (.ListComp elt [⟨target,iter,[],0⟩] scope pos) (C5j N.length js wi g te):=by
 intro pins s σ H Q I h
 rw[eval_ListComp]
 refine wpAny_comprehension_free (use:=none) rfl hs S.clos S.kind S.loc (B9u S hd hc0 hi hex hg he I h (RR:=fun acc ce r s'=>compPost (model X.prog X.w) X.A X.xe none (EP X pins σ Q) acc ce.locals r s') ?_)
 intro D C s6 H5 mm I6 n6 f6 q
 exact⟨mm,n6,fun h' sb=>⟨.ref D,H5,D2g I6 f6 sb,rfl,q⟩⟩
theorem D1q{i:Nat}{y:Str}{py spos:Pos}{elt target iter:Expr}{c:Expr}{tc:TT}{pos:Pos}{wi:TI}{g:TG}{te:TE}(S:G5 N F js scope X.N X.env)(hd:A2u X)(hc0:X.calm=true)(hi:PI X target iter wi)(hex:X.ex=[])
   (hg:∀C s₀ H₀ ex pn,A2u (X.compF scope N F C s₀ H₀ ex pn) ->PG (X.compF scope N F C s₀ H₀ ex pn) target g)
   (hc:∀C s₀ H₀ ex pn,A2u (X.compF scope N F C s₀ H₀ ex pn) ->PT (X.compF scope N F C s₀ H₀ ex pn) c tc)
   (he:∀C s₀ H₀ ex pn,A2u (X.compF scope N F C s₀ H₀ ex pn) ->PE (X.compF scope N F C s₀ H₀ ex pn) elt te) (hN:X.N.Nodup) (hi':X.N[i]?=some y) (hy:Loc X.env.scope y)
   (hf:X.fn y=true\/X.env.scope.names.lookup y=some .local:=by first|exact .inl rfl|exact .inr rfl|assumption)
   (hsw:swapsWith (.ListComp elt [⟨target,iter,[c],0⟩] scope pos) (some (.Name y py)) spos.line X.env=pure true:=by rfl)
   (hs:∀x,foldedSetIterable iter X.env x=pure x:=by intro _;rfl):PS X (.Assign [.Name y py] (.ListComp elt [⟨target,iter,[c],0⟩] scope pos) spos) (G7m (B8q N.length js wi g tc te) (C6g i)):=by
 intro pins s σ H D I h
 rw[exec_Assign_Name_used _ _ _ _ hsw]
 refine wpAny_bind (wpAny_standAt (wpAny_bind ?_))
 show wpAny _ X.A (do let _<-comprehension (.ListComp elt [⟨target,iter,[c],0⟩] scope pos) scope X.env _ (newList []) false (eval iter X.env) (some (assign (.Name y py) X.env))) _ _ s
 refine wpAny_bind (wpAny_mono (wpAny_comprehension_free (Q:=fun _ s'=>SP X pins D .next s') rfl hs S.clos S.kind S.loc (B4d S hd hc0 hi hex hg hc he I h (RR:=fun acc ce r s'=>compPost (model X.prog X.w) X.A X.xe (some (assign (.Name y py) X.env)) (fun _ s'=>SP X pins D .next s') acc ce.locals r s') ?_))
   (fun _ s' hq=>wpAny_pure (wpAny_pure hq)) fun _ _ e=>e)
 intro D' C s6 H5 mm I6 n6 f6 q
 refine wpAny_assign_Name (B5n (v:= .ref D') I6 hN hi' hy rfl (fun s7 I7 st=>?_) hf)
 obtain⟨a,sb,ha⟩:=st
 have na:C≠a:=by
   rcases ha with rfl|ha
   . exact f6.2.1
   . exact(f6.2.2.2.2.1 y a ha).symm
 exact⟨mm,n6.sameBut sb na,fun h' sb'=>⟨_,_,D2g I7 f6 sb',q⟩⟩
end
theorem G5.of0{N:List Str}{sc:Scope}{XN:List Str}{env:Env}(S:D4g N [] sc)(clos:closureFor sc env=pure (A3e [] env)):G5 N [] [] sc XN env:=
 ⟨S.kind,S.cell,S.loc,S.nd,clos,A7f S.cell S.fr,fun k y h=>by simp at h,rfl⟩
theorem B3p:bootBuiltins "enumerate"=some (.type "enumerate"):=by decide+kernel
section
variable{X:Cx}{pins:List (Addr×Obj)}{σ:St}{H:Hp}{s:Shared}{h':Heap}
theorem Inv.turnedL{t':Nat}{fp:List Addr}(I:Inv X pins σ H s)(k:∀b o,b ∉ fp ->s.heap.get? b=some o ->h'.get? b=some o)(hf:∀b∈fp,A5q X pins H b):Inv X pins σ H {s with heap:=h',toks:=t'}:=by
 have nit:∀b u,H b=some u ->b ∉ fp:=fun b u e z=>by rw[(hf b z).1] at e;cases e
 refine I.step (g':=s.gens) (d':=s.drawn) (ch:=fp) (fun b hb=>?_) (fun b o _ _ hc e _=>k b o hc e) (fun b o _ _ hc e _=>⟨o.slots,k b o hc e⟩) (fun _ _ _ _ n=>n)
   (fun b o hc e=>⟨o,k b o hc e⟩) (fun _ _ e=>e) (fun _ _ _ e=>e) (fun b ps e=>⟨#[],by rw[e];simp⟩) (fun m hm=>?_) (fun b u e=>?_) I.bare
 . obtain⟨_,f1,_,f3,f4,f5⟩:=hf b hb
   exact⟨f3,f1,f4,f5⟩
 . obtain⟨o,es,ep,ho,r⟩:=hm
   exact⟨o,es,ep,k _ o (fun z=>(hf _ z).2.1 rfl) ho,r⟩
 refine(I.hok b u e).stay (fun c v hc q=>k c v ?_ q) (fun _ q=>q) fun _ _ q=>q
 rcases hc with z|z
 . rw[z];exact nit b u e
 exact nit c _ z
theorem Inv.paired{t':Nat}{fp:List Addr}{x y:V}{u v:Value}(I:Inv X pins σ H s)(rx:U7 x u)(ry:U7 y v)(hf:∀b∈fp,A5q X pins H b)(hl:∀b∈fp,b<s.heap.objs.size)
   (k:∀b o,b ∉ fp ->s.heap.get? b=some o ->h'.get? b=some o) (hT:h'.get? s.heap.objs.size=some {cls:= .type "tuple",data:= .seq #[u,v]}):
   Inv X pins σ (upd H s.heap.objs.size (.tup [x,y])) {s with heap:=h',toks:=t'}/\∀b∈fp,upd H s.heap.objs.size (.tup [x,y]) b=none:=by
 have hn:∀b∈fp,upd H s.heap.objs.size (.tup [x,y]) b=none:=fun b hb=>by rw[D5 (Nat.ne_of_lt (hl b hb))];exact(hf b hb).1
 have I1:Inv X pins σ (upd H s.heap.objs.size (.tup [x,y])) {s with heap:=s.heap.push {cls:= .type "tuple",data:= .seq #[u,v]},toks:=t'}:=
   I.laid (fun b o z=>Heap.get?_push_of_some _ z) (Nat.le_refl _) ⟨C7 (by show 2<=1000;decide),[u,v],.cons rx (.cons ry .nil),⟨_,Heap.get?_push_size _ rfl,rfl,_,rfl⟩⟩
 have I2:Inv X pins σ (upd H s.heap.objs.size (.tup [x,y])) {heap:=h',gens:=s.gens,drawn:=s.drawn,toks:=t',os:=s.os}:=Inv.turnedL (s:={heap:=s.heap.push {cls:= .type "tuple",data:= .seq #[u,v]},gens:=s.gens,drawn:=s.drawn,toks:=t',os:=s.os}) (h':=h') (t':=t') (fp:=fp) I1 (fun b o hb z=>?_) (fun b hb=>⟨hn b hb,(hf b hb).2⟩)
 . exact⟨I2,hn⟩
 rcases Heap.get?_push_cases z with⟨rfl,rfl⟩|z
 . exact hT
 exact k b o hb z
end
section
variable{X:Cx}{es:List Expr}{k:Nat}{tp:Pos}
noncomputable def J7g (K:Frag) (te ts:TE):TE:=fun σ H Q=>te σ H fun x H1=>ts σ H1 fun z H2=>z= .int (-1)/\∃a xs,x= .ref a/\SqL K H2 a xs/\∀p,H2 p=none ->Q (.ref p) (upd H2 p (.lst xs.reverse))
theorem A6r{α β:Type}{f:α ->Option β}{g:α ->β}:∀l:List α,(∀k∈l,f k=some (g k)) ->l.filterMap f=l.map g
 | [],_=>rfl
 | a::l,h=>by
   rw[List.filterMap_cons,h a (List.mem_cons_self ..)]
   show g a::l.filterMap f=g a::l.map g
   rw[A6r l fun k hk=>h k (List.mem_cons_of_mem _ hk)]
theorem D1m(its:List Value):slicePick its.toArray none none (some (-1))=its.reverse.toArray:=by
 unfold slicePick
 congr 1
 show(sliceRange ((its.toArray.size:Int)-1) (-1) (-1)).filterMap (its.toArray[·]?)=its.reverse
 have e:sliceRange ((its.toArray.size:Int)-1) (-1) (-1)=(List.range its.length).map fun k=>its.length-1-k:=by
   unfold sliceRange
   have c:(if(-1:Int)>0 then(if((its.toArray.size:Int)-1)< -1 then(-1-((its.toArray.size:Int)-1)+ -1-1)/ -1 else 0) else(if((its.toArray.size:Int)-1)> -1 then(((its.toArray.size:Int)-1) - -1 - -1-1)/(- -1) else 0)).toNat=its.length:=by
     rw[if_neg (by decide),List.size_toArray]
     split
     . rw[show(- -1:Int)=1 by decide,Int.ediv_one];omega
     . omega
   show(List.range (if(-1:Int)>0 then(if((its.toArray.size:Int)-1)< -1 then(-1-((its.toArray.size:Int)-1)+ -1-1)/ -1 else 0) else(if((its.toArray.size:Int)-1)> -1 then(((its.toArray.size:Int)-1) - -1 - -1-1)/(- -1) else 0)).toNat).map (fun k:Nat=>(((its.toArray.size:Int)-1)+(-1)*(k:Int)).toNat)=_
   rw[c]
   refine List.map_congr_left fun k hk=>?_
   have:=List.mem_range.mp hk
   rw[List.size_toArray]
   omega
 rw[e]
 apply List.ext_getElem?
 intro i
 have fm:((List.range its.length).map fun k=>its.length-1-k).filterMap (its.toArray[·]?)=((List.range its.length).map fun k=>its.length-1-k).filterMap (its[·]?):=by simp
 rw[fm,List.filterMap_map]
 have g:(List.range its.length).filterMap ((its[·]?)∘fun k=>its.length-1-k)=its.reverse:=by
   have h1:∀k∈List.range its.length,((its[·]?)∘fun k=>its.length-1-k) k=some (its.reverse[k]?.getD .none):=fun k hk=>by
     have hk:=List.mem_range.mp hk
     show its[its.length-1-k]?=_
     rw[List.getElem?_reverse hk,List.getElem?_eq_getElem (by omega)]
     rfl
   rw[A6r _ h1]
   apply List.ext_getElem?
   intro j
   rw[List.getElem?_map]
   by_cases hj:j<its.length
   . rw[List.getElem?_range hj]
     show some (its.reverse[j]?.getD .none)=its.reverse[j]?
     rw[List.getElem?_eq_getElem (by simpa using hj)]
     rfl
   . rw[List.getElem?_eq_none (by simpa using hj),List.getElem?_eq_none (by simpa using hj)]
     rfl
 rw[g]
theorem G8e{e st:Expr}{te ts:TE}{p2 pos:Pos}(he:PE X e te)(hst:PE X st ts):PE X (.Subscript e (.Slice none none (some st) p2) pos) (J7g X.K te ts):=by
 intro pins s σ H Q I h
 refine Subscript_ (thn (he pins s σ H _ I h) fun v s1 hh_=>?_)
 obtain⟨x,H1,I1,r1,q1⟩:=hh_
 refine wpAny_Slice ?_
 rw[evalPart_none]
 refine wpAny_pure (wpAny_pure ?_)
 rw[evalPart_some]
 refine thn (hst pins s1 σ H1 _ I1 q1) fun vs s3 hh_=>?_
 obtain⟨z,H3,I3,rz,q3⟩:=hh_
 obtain⟨rfl,a,xs,rfl,hx,q⟩:=q3
 obtain⟨t,rfl⟩:=rz
 cases r1
 have I4:Inv X pins σ H3 {s3 with heap:=s3.heap.push {cls:= .type "slice",data:= .fields #[.none,.none,.int (-1) t]}}:=I3.kept (t':=s3.toks) fun b ob q=>Heap.get?_push_of_some _ q
 obtain⟨its,r,ht,hz⟩:=I4.list hx
 have hlen:=r.length
 have hg:wpAny (model X.prog X.w) X.A (getItem (.ref a) (.ref s3.heap.objs.size)) (EP X pins σ Q) X.xe {s3 with heap:=s3.heap.push {cls:= .type "slice",data:= .fields #[.none,.none,.int (-1) t]}}:=by
   refine wpAny_getItem_list_slice ht.isList (Heap.IsSliceOf.new ..) .none .none (.int (-1) t) (by decide) ?_ (by rw[List.size_toArray]<;>omega)
   rw[D1m]
   refine⟨.ref _,_,I4.laid (t':=s3.toks) (o:= .lst xs.reverse) (fun b ob q=>Heap.get?_push_of_some _ q) (Nat.le_refl _) ?_,rfl,q _ (I4.hok.fresh (Nat.le_refl _))⟩
   exact⟨by rw[List.length_reverse];exact hz,_,0,r.reverse,Heap.get?_push_size _ rfl⟩
 show wpAny (model X.prog X.w) X.A (subscriptTail e (.Slice none none (some st) p2) (.ref a) (.ref s3.heap.objs.size)) (EP X pins σ Q) X.xe {s3 with heap:=s3.heap.push {cls:= .type "slice",data:= .fields #[.none,.none,.int (-1) t]}}
 exact tail_any (ops:=[.ref a,.ref s3.heap.objs.size]) ht.isList.typeIs slot_list_getitem.lookup hg (by with_unfolding_all rfl)
end
noncomputable def G0u (D:Addr) (H H':Hp):Prop:=∀b o,H b=some o ->b≠D ->H' b=some o
theorem C7j{J:It}{g:TG}{te:TE}{σ0:St}{H1:Hp}{QD:Addr ->Hp ->Prop}{n:Nat}(R:Nat ->V ->Hp ->Prop)(hn:n<=1000)
   (mono:∀i y H' H'' D l,R i y H' ->H' D=some (.lst l) ->G0u D H' H'' ->R i y H'')
   (step:∀i H2 Qy,i<n ->B5 H1 H2 ->(∀y H6,B5 H2 H6 ->R i y H6 ->Qy y H6) ->J.go i H2/\∀x H3,J.yld i H2 x H3 ->g x σ0 H3 fun σ4 H4=>te σ4 H4 Qy)
   (stop:∀H2,B5 H1 H2 ->J.stop n H2)
   (k:∀D H' ys,B5 H1 H' ->H1 D=none ->H' D=some (.lst ys) ->ys.length=n ->(∀i y,ys[i]?=some y ->R i y H') ->QD D H'):∀D,H1 D=none ->
   ∃ (m:Nat) (W:Nat ->List V ->Hp ->Prop),W 0 [] (upd H1 D (.lst []))/\∀i ys H2,W i ys H2 ->i<=m/\H2 D=some (.lst ys)/\((J.stop i H2/\QD D H2)\/(i<m/\J.go i H2/\∀x H3,J.yld i H2 x H3 ->
     g x σ0 H3 fun σ4 H4=>te σ4 H4 fun y H6=>H6 D=some (.lst ys)/\ys.length<sizeLine/\W (i+1) (ys++ [y]) (upd H6 D (.lst (ys++ [y]))))):=by
 intro D hD
 refine⟨n,fun i ys H2=>i<=n/\ys.length=i/\H2 D=some (.lst ys)/\B5 H1 H2/\∀j y,ys[j]?=some y ->R j y H2,⟨Nat.zero_le _,rfl,A6,B5.upd hD,fun j y h=>by simp at h⟩,?_⟩
 rintro i ys H2 ⟨hi,hl,hd,sm,hR⟩
 refine⟨hi,hd,?_⟩
 by_cases hlt:i<n
 . refine .inr ⟨hlt,step i H2 _ hlt sm fun y H6 s6 r6=>?_⟩
   have d6:H6 D=some (.lst ys):=s6 _ _ hd
   have ex:G0u D H6 (upd H6 D (.lst (ys++ [y]))):=fun b o e hb=>by rw[D5 hb];exact e
   refine⟨d6,Nat.lt_of_le_of_lt (by omega:ys.length<=1000) (Y8 (Nat.le_refl _)),hlt,by simp[hl],A6,fun b o e=>?_,fun j z hj=>?_⟩
   . rw[D5 (C9 e hD)]
     exact s6 _ _ (sm _ _ e)
   . by_cases hj':j<ys.length
     . rw[List.getElem?_append_left hj'] at hj
       exact mono j z H6 _ D ys (mono j z H2 H6 D ys (hR j z hj) hd fun b o e _=>s6 _ _ e) d6 ex
     . rw[List.getElem?_append_right (by omega)] at hj
       have e0:j-ys.length=0:=by
         apply Classical.byContradiction
         intro q
         rw[List.getElem?_eq_none (by simp;omega)] at hj
         cases hj
       rw[e0] at hj
       have ej:j=i:=by omega
       subst ej
       cases hj
       exact mono _ _ H6 _ D ys r6 d6 ex
 have e:i=n:=by omega
 subst e
 exact .inl ⟨stop H2 sm,k D H2 ys sm hD hd hl hR⟩
theorem C0t{J:It}{g:TG}{tc:TT}{te:TE}{σ0:St}{H1:Hp}{QD:Addr ->Hp ->Prop}{n:Nat}(f:Nat ->Bool)(R:Nat ->V ->Hp ->Prop)(hn:n<=1000)
   (mono:∀i y H' H'' D l,R i y H' ->H' D=some (.lst l) ->G0u D H' H'' ->R i y H'')
   (step:∀(i:Nat) (H2:Hp) (Qy:VK) (Qn:Hp ->Prop),i<n ->B5 H1 H2 ->(f i=true ->∀y H6,B5 H2 H6 ->R i y H6 ->Qy y H6) ->(f i=false ->∀H6,B5 H2 H6 ->Qn H6) ->J.go i H2/\∀x H3,J.yld i H2 x H3 ->g x σ0 H3 fun σ4 H4=>tc σ4 H4 fun b H5=>if b=true then te σ4 H5 Qy else Qn H5)
   (stop:∀H2,B5 H1 H2 ->J.stop n H2)
   (k:∀D H' ys,B5 H1 H' ->H1 D=none ->H' D=some (.lst ys) ->ys.length=((List.range n).filter f).length ->(∀(j i:Nat) (y:V),((List.range n).filter f)[j]?=some i ->ys[j]?=some y ->R i y H') ->QD D H'):∀D,H1 D=none ->
   ∃ (m:Nat) (W:Nat ->List V ->Hp ->Prop),W 0 [] (upd H1 D (.lst []))/\∀i ys H2,W i ys H2 ->i<=m/\H2 D=some (.lst ys)/\((J.stop i H2/\QD D H2)\/(i<m/\J.go i H2/\∀x H3,J.yld i H2 x H3 ->
     g x σ0 H3 fun σ4 H4=>tc σ4 H4 fun b H5=>if b=true then te σ4 H5 fun y H6=>H6 D=some (.lst ys)/\ys.length<sizeLine/\W (i+1) (ys++ [y]) (upd H6 D (.lst (ys++ [y]))) else W (i+1) ys H5)):=by
 intro D hD
 refine⟨n,fun i ys H2=>i<=n/\ys.length=((List.range i).filter f).length/\H2 D=some (.lst ys)/\B5 H1 H2/\∀(j i':Nat) (y:V),((List.range i).filter f)[j]?=some i' ->ys[j]?=some y ->R i' y H2,⟨Nat.zero_le _,rfl,A6,B5.upd hD,fun j i' y h=>by simp at h⟩,?_⟩
 rintro i ys H2 ⟨hi,hl,hd,sm,hR⟩
 refine⟨hi,hd,?_⟩
 by_cases hlt:i<n
 . have fl :((List.range i).filter f).length<=i:=Nat.le_trans (List.length_filter_le _ _) (by simp)
   refine .inr ⟨hlt,step i H2 _ _ hlt sm (fun hf y H6 s6 r6=>?_) (fun hf H6 s6=>?_)⟩
   . have d6:H6 D=some (.lst ys):=s6 _ _ hd
     have ex:G0u D H6 (upd H6 D (.lst (ys++ [y]))):=fun b o e hb=>by rw[D5 hb];exact e
     have ef:(List.range (i+1)).filter f=(List.range i).filter f++ [i]:=by rw[List.range_succ,List.filter_append,List.filter_cons,hf];rfl
     refine⟨d6,Nat.lt_of_le_of_lt (by omega:ys.length<=1000) (Y8 (Nat.le_refl _)),hlt,by rw[ef,List.length_append,List.length_append,hl];rfl,A6,fun b o e=>?_,fun j i' z hi' hj=>?_⟩
     . rw[D5 (C9 e hD)]
       exact s6 _ _ (sm _ _ e)
     . rw[ef] at hi'
       by_cases hj':j<ys.length
       . rw[List.getElem?_append_left hj'] at hj
         rw[List.getElem?_append_left (by omega)] at hi'
         exact mono i' z H6 _ D ys (mono i' z H2 H6 D ys (hR j i' z hi' hj) hd fun b o e _=>s6 _ _ e) d6 ex
       . rw[List.getElem?_append_right (by omega)] at hj
         rw[List.getElem?_append_right (by omega)] at hi'
         have e0:j-ys.length=0:=by
           apply Classical.byContradiction
           intro q
           rw[List.getElem?_eq_none (by simp;omega)] at hj
           cases hj
         rw[e0] at hj
         rw[<-hl,e0] at hi'
         cases hj
         cases hi'
         exact mono _ _ H6 _ D ys r6 d6 ex
   . have ef:(List.range (i+1)).filter f=(List.range i).filter f:=by rw[List.range_succ,List.filter_append,List.filter_cons,hf];simp
     refine⟨hlt,by rw[ef];exact hl,s6 _ _ hd,sm.trans s6,fun j i' z hi' hj=>?_⟩
     rw[ef] at hi'
     exact mono i' z H2 H6 D ys (hR j i' z hi' hj) hd fun b o e _=>s6 _ _ e
 have e:i=n:=by omega
 subst e
 exact .inl ⟨stop H2 sm,k D H2 ys sm hD hd hl hR⟩
open AutoSeq1 (wpAny_loadPart')
section
variable{prog:Program}{w:World}{A:Around}{E:Value ->Shared ->Prop}{s:Shared}
theorem G5n{j c:Addr}{i:Nat}{its:Array Value}{x:Value}{Q:Value ->Shared ->Prop}(hi:s.heap.IsTupleIter j c i)(ht:s.heap.IsTuple c its)(hx:its[i]?=some x)
   (k:∀g,g.IsTupleIter j c (i+1) ->Heap.SameBut j s.heap g ->Q x {s with heap:=g}):wpAny (model prog w) A (Builtin.SmallTypes.nextOf (.ref j)) Q E s:=by
 obtain⟨o,ho,oc,od⟩:=id hi
 obtain⟨u,hu,_,n,ud⟩:=ht
 unfold Builtin.SmallTypes.nextOf
 refine wpAny_bind (wpAny_callSpecial?_slot (name:=Str.ofString "__next__") hi.typeIs F.slot_tuple_iterator_next (wpAny_call_entry F.slot_tuple_iterator_next hi.typeIs F.entry_tuple_iterator_next ?_ (F.args_tuple_iterator_next_1 _)))
 show wpAny _ _ (field (.ref j) 0>>=_) _ _ s
 refine wpAny_bind (wpAny_field ho od (x:= .ref c) rfl ?_)
 show wpAny _ _ (if(Value.ref c==Value.none)=true then _ else _) _ _ s
 rw[if_neg (show¬((Value.ref c==Value.none)=true) from Bool.false_ne_true)]
 show wpAny _ _ (field (.ref j) 1>>=_) _ _ s
 refine wpAny_bind (wpAny_field ho od (x:= .int i 0) rfl ?_)
 show wpAny _ _ (seqItems? (.ref c)>>=_) _ _ s
 refine wpAny_bind (wpAny_seqItems hu ud ?_)
 simp only[Int.toNat_natCast,hx]
 refine wpAny_bind (wpAny_setField ho od (by simp) (wpAny_pure ⟨x,rfl,wpAny_pure (k _ ?_ (Heap.SameBut.update ..))⟩))
 exact⟨_,Heap.get?_update_self _ ho (Obj.isFreed_of_fields (Obj.data_mapFields od _)),(Obj.cls_mapFields ..).trans oc,by rw[Obj.data_mapFields od];simp[rawInt]⟩
theorem C1n{j c:Addr}{i:Nat}{its:Array Value}{Q:Value ->Shared ->Prop}(hh:A.handled=none)(hi:s.heap.IsTupleIter j c i)(ht:s.heap.IsTuple c its)(hx:its[i]?=none)
   (k:∀g e,Heap.ExtBut j s.heap g ->(∃o,g.get? e=some o/\o.cls= .type "StopIteration") ->E (.ref e) {s with heap:=g}):wpAny (model prog w) A (Builtin.SmallTypes.nextOf (.ref j)) Q E s:=by
 obtain⟨o,ho,oc,od⟩:=id hi
 obtain⟨u,hu,_,n,ud⟩:=ht
 unfold Builtin.SmallTypes.nextOf
 refine wpAny_bind (wpAny_callSpecial?_slot (name:=Str.ofString "__next__") hi.typeIs F.slot_tuple_iterator_next (wpAny_call_entry F.slot_tuple_iterator_next hi.typeIs F.entry_tuple_iterator_next ?_ (F.args_tuple_iterator_next_1 _)))
 show wpAny _ _ (field (.ref j) 0>>=_) _ _ s
 refine wpAny_bind (wpAny_field ho od (x:= .ref c) rfl ?_)
 show wpAny _ _ (if(Value.ref c==Value.none)=true then _ else _) _ _ s
 rw[if_neg (show¬((Value.ref c==Value.none)=true) from Bool.false_ne_true)]
 show wpAny _ _ (field (.ref j) 1>>=_) _ _ s
 refine wpAny_bind (wpAny_field ho od (x:= .int i 0) rfl ?_)
 show wpAny _ _ (seqItems? (.ref c)>>=_) _ _ s
 refine wpAny_bind (wpAny_seqItems hu ud ?_)
 simp only[Int.toNat_natCast,hx]
 refine wpAny_bind (wpAny_rule (wpAny_bind (wpAny_setField ho od (by simp) ?_)))
 show wpAny _ _ (newExc (.type "StopIteration") ([]:List Value)>>=_) _ _ _
 refine wpAny_bind ?_
 simp only[newExc,newTuple]
 refine wpAny_bind (wpAny_newObj_type ?_ (by size_fits))
 refine wpAny_bind (m:=firstArgMember _ _) (wpAny_of_eq (a:=Value.none) (by simp only[firstArgMember];rfl) ?_)
 refine wpAny_newObj_type ?_ (by size_fits)
 simp only[raiseNew]
 refine wpAny_bind (wpAny_handled ?_)
 first|rw[show A.in1.handled=none from hh]|rw[hh]
 exact wpAny_bind (wpAny_pure (wpAny_throw (k _ _ (((Heap.SameBut.update ..).extBut.push _).push _) ⟨_,Heap.get?_push_size _ rfl,rfl⟩)))
theorem G3q{e j:Addr}{i:Nat}{old:Value}{R:Value ->Heap ->Prop}{Q:Value ->Shared ->Prop}(he:IsEnum s.heap e j i old)(ne:e≠j)
   (keep:∀x h g,R x h ->(∀o,h.get? j=some o ->g.get? j=some o) ->R x g)
   (nx:∀Q':Value ->Shared ->Prop,(∀x g,R x g ->Heap.SameBut j s.heap g ->Q' x {s with heap:=g}) ->wpAny (model prog w) A (Builtin.SmallTypes.nextOf (.ref j)) Q' E s)
   (k:∀x g,R x g ->IsEnumOut g e j ((i:Int)+1) x s.heap.objs.size ->g.get? s.heap.objs.size=some {cls:= .type "tuple",data:= .seq #[.int i s.toks,x]} ->
     (∀b o,b≠e ->b≠j ->s.heap.get? b=some o ->g.get? b=some o) ->Q (.ref s.heap.objs.size) {s with heap:=g,toks:=s.toks+1}):
   wpAny (model prog w) A (Builtin.«enumerate.__next__» ⟨[.ref e], []⟩) (fun fin s' => ∃ v, fin = .done (.ret v) /\ Q v s') E s := by
 obtain⟨hp,gs,dr,tk,os⟩:=s
 show wpAny _ _ (field (.ref e) 2>>=_) _ _ _
 refine wpAny_bind (wpAny_field he rfl (x:= .ref j) rfl ?_)
 refine wpAny_bind (nx _ fun x g1 r1 s1=>?_)
 have s1:Heap.SameBut j hp g1:=s1
 have e1:IsEnum g1 e j i old:=(s1.2 e ne).trans he
 show wpAny _ _ (field (.ref e) 3>>=_) _ _ ⟨g1,gs,dr,tk,os⟩
 refine wpAny_bind (wpAny_field e1 rfl (x:=rawInt i) rfl ?_)
 show wpAny _ _ (field (.ref e) 4>>=_) _ _ ⟨g1,gs,dr,tk,os⟩
 refine wpAny_bind (wpAny_field e1 rfl (x:= .none) rfl ?_)
 show wpAny _ _ (mkInt i>>=_) _ _ ⟨g1,gs,dr,tk,os⟩
 refine wpAny_bind (wpAny_mkInt ?_)
 show wpAny _ _ (setField (.ref e) 3 (rawInt ((i:Int)+1))>>=_) _ _ ⟨g1,gs,dr,tk+1,os⟩
 refine wpAny_bind (wpAny_setField_rec e1 (by simp) fun g2 e2 s2=>?_)
 have s2:Heap.SameBut e g1 g2:=s2
 have e2:IsEnum g2 e j ((i:Int)+1) old:=e2
 show wpAny _ _ (setField (.ref e) 4 .none>>=_) _ _ ⟨g2,gs,dr,tk+1,os⟩
 refine wpAny_bind (wpAny_setField_rec e2 (by simp) fun g3 e3 s3=>?_)
 have s3:Heap.SameBut e g2 g3:=s3
 have e3:IsEnum g3 e j ((i:Int)+1) old:=e3
 show wpAny _ _ (newTuple [.int i tk,x]>>=_) _ _ ⟨g3,gs,dr,tk+1,os⟩
 refine wpAny_bind (wpAny_newTuple ?_)
 have e4:IsEnum (g3.push {cls:= .type "tuple",data:= .seq #[.int i tk,x]}) e j ((i:Int)+1) old:=Heap.get?_push_of_some _ e3
 have sz:g3.objs.size=hp.objs.size:=by rw[s3.1,s2.1,s1.1]
 have t4:(g3.push {cls:= .type "tuple",data:= .seq #[.int i tk,x]}).get? hp.objs.size=some {cls:= .type "tuple",data:= .seq #[.int i tk,x]}:=by rw[<-sz];exact Heap.get?_push_size _ rfl
 have k4:∀b o,b≠e ->b≠j ->hp.get? b=some o ->(g3.push {cls:= .type "tuple",data:= .seq #[.int i tk,x]}).get? b=some o:=fun b o be bj hb=>Heap.get?_push_of_some _ (s3.extBut b o be (s2.extBut b o be (s1.extBut b o bj hb)))
 have r4:R x (g3.push {cls:= .type "tuple",data:= .seq #[.int i tk,x]}):=keep x g1 _ r1 fun o z=>Heap.get?_push_of_some _ (s3.extBut j o (Ne.symm ne) (s2.extBut j o (Ne.symm ne) z))
 generalize g3.push {cls:= .type "tuple",data:= .seq #[.int i tk,x]}=g4 at e4 t4 k4 r4
 have lt:e<hp.objs.size:=Heap.lt_size he
 show wpAny _ _ (Builtin.SmallTypes.ownedTupleIsFree (.ref e)>>=_) _ _ ⟨g4,gs,dr,tk+1,os⟩
 rw[sz]
 refine wpAny_bind ?_
 unfold Builtin.SmallTypes.ownedTupleIsFree
 refine wpAny_bind (wpAny_field e4 rfl (x:= .none) rfl (wpAny_pure ?_))
 simp only[if_true]
 refine wpAny_bind (wpAny_rule ?_)
 refine wpAny_bind (wpAny_field e4 rfl (x:=old) rfl ?_)
 refine wpAny_bind (wpAny_setField_rec e4 (by simp) fun g5 e5 s5=>?_)
 have s5:Heap.SameBut e g4 g5:=s5
 have e5:IsEnum g5 e j ((i:Int)+1) x:=e5
 show wpAny _ _ (Builtin.SmallTypes.ownedTupleHandOut (.ref e) (.ref hp.objs.size)>>=_) _ _ ⟨g5,gs,dr,tk+1,os⟩
 refine wpAny_bind ?_
 unfold Builtin.SmallTypes.ownedTupleHandOut
 refine wpAny_bind (wpAny_setField_rec e5 (by simp) fun g6 e6 s6=>?_)
 have s6:Heap.SameBut e g5 g6:=s6
 have e6:IsEnumOut g6 e j ((i:Int)+1) x hp.objs.size:=e6
 refine wpAny_setField_rec e6 (by simp) fun g7 e7 s7=>?_
 have s7:Heap.SameBut e g6 g7:=s7
 have up:∀b o,b≠e ->g4.get? b=some o ->g7.get? b=some o:=fun b o be z=>s7.extBut b o be (s6.extBut b o be (s5.extBut b o be z))
 exact wpAny_bind (wpAny_letGo (wpAny_pure ⟨_,rfl,k x g7 (keep x g4 g7 r4 fun o z=>up j o (Ne.symm ne) z) e7 (up _ _ (Nat.ne_of_gt lt) t4) fun b o be bj z=>up b o be (k4 b o be bj z)⟩))
theorem D2a{e j c:Addr}{i:Nat}{its:Array Value}{x old:Value}{Q:Option Value ->Shared ->Prop}(he:IsEnum s.heap e j i old)(hi:s.heap.IsTupleIter j c i)(ht:s.heap.IsTuple c its)(hx:its[i]?=some x)(ne:e≠j)
   (k:∀g,g.IsTupleIter j c (i+1) ->IsEnumOut g e j ((i:Int)+1) x s.heap.objs.size ->g.get? s.heap.objs.size=some {cls:= .type "tuple",data:= .seq #[.int i s.toks,x]} ->
     (∀b o,b≠e ->b≠j ->s.heap.get? b=some o ->g.get? b=some o) ->Q (some (.ref s.heap.objs.size)) {s with heap:=g,toks:=s.toks+1}):wpAny (model prog w) A (pyNext (.ref e)) Q E s:=by
 have hT:s.TypeIs (.ref e) "enumerate":=⟨_,he,rfl⟩
 unfold pyNext
 refine wpAny_bind (wpAny_attempt (wpAny_callSpecial?_slot (name:=Str.ofString "__next__") hT F.slot_enumerate_next (wpAny_call_entry F.slot_enumerate_next hT F.entry_enumerate_next ?_ (F.args_enumerate_next_1 _))))
 refine G3q (R:=fun y g=>y=x/\g.IsTupleIter j c (i+1)) he ne (fun y h g r kk=>⟨r.1,let⟨o,z,q⟩:=r.2;⟨o,kk o z,q⟩⟩) (fun Q' kk=>G5n hi ht hx fun g st sb=>kk x g ⟨rfl,st⟩ sb) fun y g r ho hT' hk=>?_
 obtain⟨rfl,st⟩:=r
 exact wpAny_pure (k g st ho hT' hk)
theorem G3h{e j c:Addr}{i:Nat}{its:Array Value}{old:Value}{Q:Option Value ->Shared ->Prop}(hh:A.handled=none)(he:IsEnum s.heap e j i old)(hi:s.heap.IsTupleIter j c i)(ht:s.heap.IsTuple c its)(hx:its[i]?=none)
   (k:∀g,Heap.ExtBut j s.heap g ->Q none {s with heap:=g}):wpAny (model prog w) A (pyNext (.ref e)) Q E s:=by
 have hT:s.TypeIs (.ref e) "enumerate":=⟨_,he,rfl⟩
 unfold pyNext
 refine wpAny_bind (wpAny_attempt (wpAny_callSpecial?_slot (name:=Str.ofString "__next__") hT F.slot_enumerate_next (wpAny_call_entry F.slot_enumerate_next hT F.entry_enumerate_next ?_ (F.args_enumerate_next_1 _))))
 show wpAny _ _ (field (.ref e) 2>>=_) _ _ _
 refine wpAny_bind (wpAny_field he rfl (x:= .ref j) rfl ?_)
 refine wpAny_bind (C1n hh hi ht hx fun g x eb so=>?_)
 obtain⟨o,ho,oc⟩:=so
 exact wpAny_bind (wpAny_isInstance (T:="StopIteration") (b:=true) ⟨o,ho,oc⟩ isSubtype_stop (wpAny_pure (k _ eb)))
theorem G2f(c:Addr)(its:Array Value)(ob:Obj)(oc:ob.cls= .type "tuple")(n:Nat)(od:ob.data= .seq its n):
   Meets (Builtin.«enumerate.__new__» ⟨[.type "enumerate", .ref c], []⟩) (fun _ R s => s.heap.get? c = some ob /\
     R (.ok (.ret (.ref (s.heap.push {cls:= .type "tuple_iterator",data:= .fields #[.ref c,.int 0 0]}).objs.size)))
       {s with heap:=(s.heap.push {cls:= .type "tuple_iterator",data:= .fields #[.ref c,.int 0 0]}).push {cls:= .type "enumerate",data:= .fields #[.none,.bool false,.ref s.heap.objs.size,rawInt 0,.none,.none]}}):=
 .of_wp fun prog w A R s h=>by
   obtain⟨hp,gs,dr,tk,os⟩:=s
   obtain⟨hc,h⟩:=h
   obtain⟨cl,dct,dt,sl⟩:=ob
   have oc:cl= .type "tuple":=oc
   have od:dt= .seq its n:=od
   subst oc od
   have hsub:=sub_enumerate
   have hL:Heap.IsTuple (Shared.heap ⟨hp,gs,dr,tk,os⟩) c its:=⟨_,hc,rfl,n,rfl⟩
   wp_walk using wpAny_loadPart' hc
   refine wpAny_stack_any fun st=>wpAny_pure ?_
   split
   . rename_i ty _ _ _ _ _
     cases(ty==Value.type "enumerate")
     . wp_walk using wpAny_loadPart' hc,wpAny_pyIter_tuple hL
       exact⟨_,rfl,h⟩
     . wp_walk using wpAny_loadPart' hc,wpAny_pyIter_tuple hL
       exact⟨_,rfl,h⟩
   . wp_walk using wpAny_loadPart' hc,wpAny_pyIter_tuple hL
     exact⟨_,rfl,h⟩
theorem A7c{c:Addr}{its:Array Value}{Q:Value ->Shared ->Prop}(hL:s.heap.IsTuple c its)
   (h:∀g,IsEnum g (s.heap.objs.size+1) s.heap.objs.size 0 .none ->g.IsTupleIter s.heap.objs.size c 0 ->(∀b o,s.heap.get? b=some o ->g.get? b=some o) ->Q (.ref (s.heap.objs.size+1)) {s with heap:=g}):
   wpAny (model prog w) A (call (.type "enumerate") [.ref c]) Q E s:=by
 obtain⟨ob,hc,oc,n,od⟩:=hL
 refine callType_new F.called_enumerate (by decide) (F.typeCall_enumerate_1 _) (F.newCall_enumerate_1 _) (fun obj=>F.args_object_init_2 obj _) F.entry_enumerate_new (G2f c its ob oc n od) ⟨hc,?_⟩
 have hz:(s.heap.push {cls:= .type "tuple_iterator",data:= .fields #[.ref c,.int 0 0]}).objs.size=s.heap.objs.size+1:=Heap.size_push ..
 show _/\_
 rw[hz]
 have he:IsEnum ((s.heap.push {cls:= .type "tuple_iterator",data:= .fields #[.ref c,.int 0 0]}).push {cls:= .type "enumerate",data:= .fields #[.none,.bool false,.ref s.heap.objs.size,rawInt 0,.none,.none]}) (s.heap.objs.size+1) s.heap.objs.size 0 .none:=by
   have q:=Heap.get?_push_size (s.heap.push {cls:= .type "tuple_iterator",data:= .fields #[.ref c,.int 0 0]}) (o:={cls:= .type "enumerate",data:= .fields #[.none,.bool false,.ref s.heap.objs.size,rawInt 0,.none,.none]}) rfl
   rw[hz] at q
   exact q
 exact⟨⟨_,he,rfl⟩,h _ he ⟨_,Heap.get?_push_of_some _ (Heap.get?_push_size _ rfl),rfl,rfl⟩ fun b o x=>Heap.get?_push_of_some _ (Heap.get?_push_of_some _ x)⟩
end
noncomputable def G5j (K:Frag) (a:Addr):It:=
 ⟨fun i H=>∃xs x,SqT K H a xs/\xs[i]?=some x,fun i H x H'=>∃t y,x= .ref t/\H t=none/\H'=upd H t (.tup [.int i,y])/\∀xs,SqT K H a xs ->xs[i]?=some y,fun i H=>∃xs,SqT K H a xs/\xs.length<=i⟩
theorem C2f{P:Program}{w:World}{K:Frag}{es:List Expr}{k:Nat}{pos:Pos}(a e it:Addr)(hei:e≠it):C9h P w K (.Tuple es k pos) (G5j K a) [e,it] e (fun i h=>(∃old,IsEnum h e it i old)/\h.IsTupleIter it a i) where
 mem:=by simp
 obj:=fun i h st b hb=>by
   obtain⟨⟨old,he⟩,o,eo,c,d⟩:=st
   rcases(by simpa using hb:b=e\/b=it) with rfl|rfl
   . exact⟨_,he,fun v z=>by
       have z':Data.fields _=Data.cell v:=z
       cases z'⟩
   . exact⟨o,eo,fun v z=>by rw[d] at z;cases z⟩
 keep:=fun i h h' st k=>by
   obtain⟨⟨old,he⟩,hit⟩:=st
   exact⟨⟨old,k e (by simp) _ he⟩,hit.at fun o x=>k it (by simp) o x⟩
 item:=by
   intro X hP hw hK hc i pins s σ H E I hf st hg
   subst hP hw hK
   obtain⟨xs,x,hq,hx⟩:=hg
   obtain⟨its,rv,p,hz⟩:=I.tuple hq
   obtain⟨u,hu,ru⟩:=rv.get hx
   obtain⟨⟨old,he⟩,hit⟩:=st
   have elt:e<s.heap.objs.size:=Heap.lt_size he
   have ilt:it<s.heap.objs.size:=by obtain⟨o,z,_⟩:=hit;exact Heap.lt_size z
   refine D2a he hit (show s.heap.IsTuple a its.toArray from p) (x:=u) (by simpa using hu) hei fun h1 hit1 ho hT hk=>?_
   refine⟨_,rfl,wpAny_letOwnedTupleGo_enum ho fun h2 he2 hs2=>?_⟩
   have hs2:Heap.SameBut e h1 h2:=hs2
   obtain⟨I2,hn⟩:=I.paired (h':=h2) (t':=s.toks+1) (fp:=[e,it]) (x:= .int i) (y:=x) (u:= .int i s.toks) (v:=u) ⟨_,rfl⟩ ru hf
     (fun b hb=>by rcases(by simpa using hb:b=e\/b=it) with rfl|rfl<;>assumption)
     (fun b o hb z=>(hs2.2 b (fun q=>hb (by simp[q]))).trans (hk b o (fun q=>hb (by simp[q])) (fun q=>hb (by simp[q])) z)) ((hs2.2 _ (Nat.ne_of_gt elt)).trans hT)
   refine⟨.ref s.heap.objs.size,_,I2,rfl,⟨_,x,rfl,I.hok.fresh (Nat.le_refl _),rfl,fun ys hy=>by rw[I.tuple_inj hy hq];exact hx⟩,⟨⟨u,?_⟩,hit1.at fun o y=>(hs2.2 it hei.symm).trans y⟩,hn⟩
   have:((i+1:Nat):Int)=(i:Int)+1:=by push_cast;rfl
   rw[this]
   exact he2
 done:=by
   intro X hP hw hK hc i pins s σ H E I hf st hg
   subst hP hw hK
   obtain⟨xs,hq,hx⟩:=hg
   obtain⟨its,rv,p,hz⟩:=I.tuple hq
   obtain⟨⟨old,he⟩,hit⟩:=st
   have hl:=rv.length
   exact G3h (I.ok.hd hc) he hit (show s.heap.IsTuple a its.toArray from p) (by simp;omega) fun h' eb=>⟨rfl,I.turnedL (t':=s.toks) (fp:=[e,it]) (fun b o hb z=>eb b o (fun q=>hb (by simp[q])) z) hf⟩
 self:=fun _ _ _ _ _ st h=>by
   obtain⟨⟨old,he⟩,hit⟩:=st
   exact wpAny_pyIter_enum he h
section
variable{X:Cx}{es:List Expr}{k:Nat}{tp:Pos}
noncomputable def G7x (K:Frag) (ta:TA):TI:=fun σ H R=>ta σ H fun vs H1=>∃a,vs=[.ref a]/\(∃xs,SqT K H1 a xs)/\R (G5j K a) H1
theorem D3w{a:Expr}{ta:TA}{p pos:Pos}(hg:Gl X "enumerate")(hm:X.mg "enumerate"=none)(ha:PA X [a] ta)(hs:starEach [a] X.env=[(false,eval a X.env)]:=by rfl):PI X (.Tuple es k tp) (.Call (.Name "enumerate" p) [a] [] pos) (G7x X.K ta):=by
 intro pins s σ H R I h
 refine Call_ (A9q I hg hm B3p (PyProof.Rows.callWith_type1 (thn (ha pos pins s σ H _ I h) fun us s1 hh_=>?_) hs rfl))
 obtain⟨vs,H1,I1,r1,q1⟩:=hh_
 obtain⟨l,e,⟨xs,hq⟩,q⟩:=q1
 subst e
 cases r1 with
 | cons r rr=>
   cases rr
   cases r
   obtain⟨its,rv,pl,hz⟩:=I1.tuple hq
   refine A7c (show s1.heap.IsTuple l its.toArray from pl) fun h' he hit hk=>wpAny_pyIter_enum he ?_
   have I2:Inv X pins σ H1 {s1 with heap:=h'}:=I1.kept (t':=s1.toks) hk
   refine⟨s1.heap.objs.size+1,[s1.heap.objs.size+1,s1.heap.objs.size],_,_,H1,rfl,I2,C2f l _ _ (Nat.succ_ne_self _),⟨⟨.none,he⟩,hit⟩,fun b hb=>?_,q⟩
   rcases(by simpa using hb:b=s1.heap.objs.size+1\/b=s1.heap.objs.size) with rfl|rfl
   . exact I1.fpOk (Nat.le_add_right _ _) (I1.hok.fresh (Nat.le_add_right _ _))
   . exact I1.fpOk (Nat.le_refl _) (I1.hok.fresh (Nat.le_refl _))
end
end L2
namespace L2
open PySem PySem.Spec PyProof.Rows PySem.W
section
variable{X:Cx}
theorem A8u:A3s X (.builtin "divmod") (fun xs H Q=>∃i j:Int,xs=[.int i,.int j]/\(0<j/\j.natAbs.log2<9000)/\∀p,H p=none ->Q (.ref p) (upd H p (.tup [.int (i/j),.int (i % j)]))):=by
 intro pins s σ H xs us Q I r h
 obtain⟨i,j,rfl,⟨h1,h2⟩,q⟩:=h
 obtain⟨u,w',rfl,⟨t,rfl⟩,⟨t',rfl⟩⟩:=D0r r
 refine divmod_int (by omega) ?_ (.inl (PyProof.noPylong_of_log2 h2))
 rw[Int.fdiv_eq_ediv_of_nonneg i (by omega),Int.fmod_eq_emod_of_nonneg i (by omega)]
 refine⟨.ref s.heap.objs.size,upd H s.heap.objs.size (.tup [.int (i/j),.int (i % j)]),I.laid (fun b o e=>Heap.get?_push_of_some _ e) (Nat.le_refl _) ⟨C7 (by show 2<=1000;decide),[.int (i/j) s.toks,.int (i % j) (s.toks+1)],.cons ⟨_,rfl⟩ (.cons ⟨_,rfl⟩ .nil),⟨_,Heap.get?_push_size s.heap rfl,rfl,0,rfl⟩⟩,rfl,q _ (I.hok.fresh (Nat.le_refl _))⟩
end
end L2
namespace L2
open PySem PySem.W PyProof.Rows
section
variable{X:Cx}{o e:Expr}{ta:TE}{m:Str}{apos pos:Pos}{j k:Nat}{ps:List Str}{ι:Type}{cw f:ι ->Addr}{fd:ι ->FuncData}{sp:ι ->Sp}{EH:EK}
end
section
variable{X:Cx}{a b e o:Expr}{es:List Expr}{ta tb te to:TE}{t:TA}{pos:Pos}{st:Stmt}{rest:List Stmt}{ts u:TS}
end
end L2
namespace L2
open PySem PySem.Spec PyProof.Rows PySem.W
section
variable{X:Cx}{x f:Str}{p cpos pos:Pos}{e:Expr}{t:TA}{C fI:Addr}{fdI:FuncData}{ps:List Str}{j k:Nat}
end
section
variable{X:Cx}{x y:Str}{e:Expr}{t:TE}{p q:Pos}{pos pos2:Pos}
end
end L2
namespace L2
open PySem PySem.Spec PyProof.Rows
end L2
namespace L2
open PySem PySem.Spec PyProof.Rows PySem.W
mutual
inductive RdR(H:Hp):V ->PyData ->Prop where
 |non:RdR H .non .none
 |bl (b:Bool):RdR H (.bl b) (.bool b)
 |int (i:Int):RdR H (.int i) (.int i)
 |str (x:Str):RdR H (.str x) (.str x)
 |tup {a:Addr} {xs:List V} {ds:List PyData} (h:H a=some (.tup xs)) (r:A6m H xs ds):RdR H (.ref a) (.tuple ds)
 |lst {a:Addr} {xs:List V} {ds:List PyData} (h:H a=some (.lst xs)) (n:a≠sysModules) (r:A6m H xs ds):RdR H (.ref a) (.list ds)
 |dct0 {a:Addr} (h:H a=some (.dK [])):RdR H (.ref a) (.dict [])
 |dct1 {a:Addr} {z:Str} {b:Bool} (h:H a=some (.dK [(.inr z,.bl b)])):RdR H (.ref a) (.dict [(.str z,.bool b)])
inductive A6m(H:Hp):List V ->List PyData ->Prop where
 |nil:A6m H [] []
 |cons {x:V} {xs:List V} {d:PyData} {ds:List PyData} (h:RdR H x d) (r:A6m H xs ds):A6m H (x::xs) (d::ds)
end
mutual
theorem RdR.same{H H':Hp}(s:∀b o,H b=some o ->H' b=some o):∀{x:V} {d:PyData},RdR H x d ->RdR H' x d
 |_,_,.non=> .non
 |_,_,.bl b=> .bl b
 |_,_,.int i=> .int i
 |_,_,.str x=> .str x
 |_,_,.tup h r=> .tup (s _ _ h) (A6m.same s r)
 |_,_,.lst h n r=> .lst (s _ _ h) n (A6m.same s r)
 |_,_,.dct0 h=> .dct0 (s _ _ h)
 |_,_,.dct1 h=> .dct1 (s _ _ h)
theorem A6m.same{H H':Hp}(s:∀b o,H b=some o ->H' b=some o):∀{x:List V} {d:List PyData},A6m H x d ->A6m H' x d
 |_,_,.nil=> .nil
 |_,_,.cons h r=> .cons (RdR.same s h) (A6m.same s r)
end
section
variable{X:Cx}
mutual
theorem RdR.reads{pins:List (Addr×Obj)}{σ:St}{H:Hp}{s:Shared}(I:Inv X pins σ H s):∀{x:V} {d:PyData} {u:Value},RdR H x d ->U7 x u ->∃as,Reads s.heap u d as/\sysModules ∉ as
 |_,_,_,.non,r=>by cases r;exact⟨_,.none,by simp⟩
 |_,_,_,.bl b,r=>by cases r;exact⟨_,.bool b,by simp⟩
 |_,_,_,.int i,r=>by obtain⟨t,rfl⟩:=r;exact⟨_,.int i t,by simp⟩
 |_,_,_,.str x,r=>by obtain⟨t,rfl⟩:=r;exact⟨_,.str x t,by simp⟩
 | _,_,_,.tup h q,r=>by
   cases r
   obtain⟨_,its,rv,o,e,c,n,d⟩:=I.hok _ _ h
   obtain⟨as,z,y⟩:=A6m.reads I q rv
   exact⟨_,.tuple e c d (by simpa using z),y⟩
 | _,_,_,.lst (a:=a) h nn q,r=>by
   cases r
   obtain⟨_,its,n,rv,e⟩:=I.hok _ _ h
   obtain⟨as,z,y⟩:=A6m.reads I q rv
   refine⟨_,.list e rfl rfl (by simpa using z),fun hm=>?_⟩
   rcases List.mem_cons.mp hm with hm|hm
   . exact nn hm.symm
   . exact y hm
 | _,_,_,.dct0 (a:=a) h,r=>by
   cases r
   obtain⟨_,nS,vs,kv,o,es,ep,e,c,d,_,ps,_⟩:=I.hok _ _ h
   cases kv
   cases hp:es.toList with
   |cons _ _=>rw[hp] at ps;cases ps
   | nil=>
     refine⟨_,.dict (kvs:=[]) e c.1 d (by rw[hp];exact .nil) (by rw[hp];exact .nil),fun hm=>?_⟩
     exact beq_eq_false_iff_ne.mp nS (by simpa using hm:sysModules=a).symm
 | _, _, _,.dct1 (a:=a) (z:=z) (b:=b) h,r=>by
   cases r
   obtain⟨_,nS,vs,kv,o,es,ep,e,c,d,_,ps,_⟩:=I.hok _ _ h
   cases kv with
   | cons k1 k2=>
     cases k2
     obtain⟨k1a,k1b⟩:=k1
     cases ps':es.toList with
     |nil=>rw[ps'] at ps;cases ps
     | cons en rest=>
       rw[ps'] at ps
       cases ps with
       | cons p1 p2 p3=>
         cases p3
         have hk:∃t,en.key= .str z t:=by
           rw[<-k1a] at p1
           have p1:Value.isStrOf z en.key=true:=p1
           cases hk:en.key<;>rw[hk] at p1<;>simp[Value.isStrOf] at p1
           subst p1
           exact⟨_,rfl⟩
         obtain⟨t,hk⟩:=hk
         have hv:en.val= .bool b:=p2.trans k1b
         refine⟨_,.dict (kvs:=[(.str z,.bool b)]) e c.1 d (by rw[ps'];show ReadsAll s.heap [en.key] [.str z] _;rw[hk];exact .cons (.str z t) .nil) (by rw[ps'];show ReadsAll s.heap [en.val] [.bool b] _;rw[hv];exact .cons (.bool b) .nil),fun hm=>?_⟩
         exact beq_eq_false_iff_ne.mp nS (by simpa using hm:sysModules=a).symm
theorem A6m.reads{pins:List (Addr×Obj)}{σ:St}{H:Hp}{s:Shared}(I:Inv X pins σ H s):∀{xs:List V} {ds:List PyData} {us:List Value},A6m H xs ds ->J1 xs us ->∃as,ReadsAll s.heap us ds as/\sysModules ∉ as
 |_,_,_,.nil,r=>by cases r;exact⟨_,.nil,by simp⟩
 | _,_,_,.cons h q,r=>by
   cases r with
   | cons r1 r2=>
     obtain⟨as,z,n1⟩:=RdR.reads I h r1
     obtain⟨bs,y,n2⟩:=A6m.reads I q r2
     exact⟨_,.cons z y,by simp[n1,n2]⟩
end
end
section
variable{X:Cx}{j k:Nat}{f C:Addr}{fd:FuncData}{ps:List Str}{sp:Sp}{dvs:List V}{ds:List Value}{x m:Str}{p pos apos:Pos}{e o:Expr}{es:List Expr}{ta:TE}{t:TA}{st:Stmt}
end
section
variable{cs:List Addr}{H H' H2:Hp}{b:Addr}{P:Program}{w:World}{h h':Heap}{fs:List Addr}
end
section
variable{X:Cx}{j k:Nat}{f:Addr}{fd:FuncData}{ps:List Str}{sp:Sp}{ds:List Value}{EH:EK}{x:Str}{p pos:Pos}{e:Expr}{es:List Expr}{t:TA}{st:Stmt}
end
section
variable{X:Cx}
end
section
variable{X:Cx}{tg:Expr}
end
section
variable{X:Cx}
end
section
variable{prog:Program}{w:World}{A:Around}{E:Value ->Shared ->Prop}{s:Shared}
end
section
variable{X:Cx}{pos:Pos}
end
section
variable{X:Cx}{pos tpos pa pb:Pos}
end
section
variable{X:Cx}{N F:List Str}{js:List Nat}{scope:Scope}
end
noncomputable def Itq (lo c:Int) (n:Nat):It:=⟨fun i _=>i<n,fun i H x H'=>H'=H/\x= .int (lo+i*c),fun i _=>n<=i⟩
theorem C0k{P:Program}{w:World}{K:PySem.W.Frag}{tg:Expr}(it:Addr)(lo c:Int)(n:Nat):C9h P w K tg (Itq lo c n) [it] it (fun i h=>IsRangeIter h it (lo+(i:Nat)*c) ((n:Int)- (i:Nat)) c) where
 mem:=by simp
 obj :=fun i h st b hb=>by
   have e:b=it:=by simpa using hb
   subst e
   exact⟨_,st,fun v z=>by
     have z':Data.fields _=Data.cell v:=z
     cases z'⟩
 keep:=fun i h h' st k=>k it (by simp) _ st
 item:=by
   intro X hP hw hK hc i pins s σ H E I hf st hg
   subst hP hw hK
   obtain⟨f0,f1,f2,f3,f4,f5⟩:=hf it (by simp)
   have W:=Walks.range (prog:=X.prog) (w:=X.w) (I.ok.hd hc) it lo c n
   refine W.item i s _ _ hg st fun v h' tk hv st' kk=>?_
   obtain⟨t,rfl⟩:=hv
   have I1:Inv X pins σ H {s with heap:=h',toks:=tk}:=I.turned (fun b o hb e=>kk b o (by simpa using hb) e) f0 f1 f3 f4 f5
   exact⟨_,rfl,C3x (s:={s with heap:=h',toks:=tk}) (n:="range_iterator") st' rfl rfl (by decide) ⟨.int (lo+i*c),H,I1,⟨t,rfl⟩,⟨rfl,rfl⟩,st',fun b hb=>(hf b hb).1⟩⟩
 done:=by
   intro X hP hw hK hc i pins s σ H E I hf st hg
   subst hP hw hK
   obtain⟨f0,f1,f2,f3,f4,f5⟩:=hf it (by simp)
   exact wpAny_pyNext_range_end (I.ok.hd hc) st (by have:n<=i:=hg;omega) fun h' eb=>⟨rfl,I.turned (t':=s.toks) (fun b o hb e=>eb b o hb e) f0 f1 f3 f4 f5⟩
 self:=fun _ _ _ _ _ st h=>wpAny_pyIter_rangeiter st h
section
variable{X:Cx}{tg:Expr}
theorem C8s{pins:List (Addr×Obj)}{σ:St}{H:Hp}{s:Shared}{R:It ->Hp ->Prop}{E:Value ->Shared ->Prop}{lo hi c:Int}{n:Nat}{t u v:Tok}{tk:Nat}(I:Inv X pins σ H s)(hs:Builtin.Range.small lo hi c=true)(hn:Builtin.Range.rangeSize lo hi c=n)
   (q:R (Itq lo c n) H):wpAny (model X.prog X.w) X.A (pyIter (.ref s.heap.objs.size)) (PIE X pins σ tg R) E {s with heap:=s.heap.push {cls:= .type "range",data:= .fields #[.int lo t,.int hi u,.int c v]},toks:=tk}:=by
 refine wpAny_pyIter_range (IsRange.new ..) hs ?_
 have I1:Inv X pins σ H {s with heap:=s.heap.push {cls:= .type "range",data:= .fields #[.int lo t,.int hi u,.int c v]},toks:=tk}:=I.kept fun b o e=>Heap.get?_push_of_some _ e
 refine⟨(s.heap.push {cls:= .type "range",data:= .fields #[.int lo t,.int hi u,.int c v]}).objs.size,[(s.heap.push {cls:= .type "range",data:= .fields #[.int lo t,.int hi u,.int c v]}).objs.size],_,_,H,rfl,
   I1.kept (t':=tk) fun b o e=>Heap.get?_push_of_some _ e,C0k _ lo c n,?_,fun b hb=>?_,q⟩
 . have e1:lo+((0:Nat):Int)*c=lo:=by simp
   have e2:((n:Nat):Int)- ((0:Nat):Int)=Builtin.Range.rangeSize lo hi c:=by rw[hn];simp
   show IsRangeIter _ _ (lo+((0:Nat):Int)*c) ((n:Int)- ((0:Nat):Int)) c
   rw[e1,e2]
   exact Heap.get?_push_size _ rfl
 have e:b=(s.heap.push {cls:= .type "range",data:= .fields #[.int lo t,.int hi u,.int c v]}).objs.size:=by simpa using hb
 subst e
 exact I1.fpOk (Nat.le_refl _) (I1.hok.fresh (Nat.le_refl _))
noncomputable def J3m (ta:TA):TI:=fun σ H R=>ta σ H fun vs H1=>∃i j c:Int,∃n:Nat,vs=[.int i,.int j,.int c]/\c≠0/\Builtin.divisionGoesByPylong (j-i) c=false/\Builtin.Range.small i j c=true/\Builtin.Range.rangeSize i j c=n/\R (Itq i c n) H1
theorem C8u{a b c:Expr}{ta:TA}{p pos:Pos}(hg:Gl X "range")(hm:X.mg "range"=none)(ha:PA X [a,b,c] ta)(hs:starEach [a,b,c] X.env=[(false,eval a X.env),(false,eval b X.env),(false,eval c X.env)]:=by rfl)(hs2:starEach [b,c] X.env=[(false,eval b X.env),(false,eval c X.env)]:=by rfl):
   PI X tg (.Call (.Name "range" p) [a,b,c] [] pos) (J3m ta):=by
 intro pins s σ H R I h
 refine Call_ (A9q I hg hm boot_range (PyProof.Rows.callWith_type1 (thn (ha pos pins s σ H _ I h) fun us s1 hh_=>?_) (by rw[hs,hs2]) (by rw[hs2];rfl)))
 obtain⟨vs,H1,I1,r1,q1⟩:=hh_
 obtain⟨i,j,c,n,e,q1,q2,q3,q4,q⟩:=q1
 subst e
 cases r1 with
 | cons r rr=>
   cases rr with
   | cons r' rr=>
     cases rr with
     | cons r'' rr=>
       cases rr
       obtain⟨t,rfl⟩:=r
       obtain⟨t',rfl⟩:=r'
       obtain⟨t'',rfl⟩:=r''
       exact call_range_3 q1 (C8s I1 q3 q4 q) (.inl q2)
end
section
variable{X:Cx}{pins:List (Addr×Obj)}{σ:St}{H:Hp}{s:Shared}
end
section
variable{X:Cx}{tg:Expr}
end
end L2
namespace TR
open PySem L2 PySem.W PyProof.Rows
noncomputable abbrev Q0:List Str:=["context","one","other"]
noncomputable abbrev Q3:List Str:=["one","other"]
noncomputable abbrev Q4:List Str:=["self","sign","last","part"]
noncomputable abbrev Q5:List Str:=["self","sign"]
noncomputable abbrev Q7:List Str:=["thing","least","most"]
noncomputable abbrev Q8:List Str:=["context","sign"]
noncomputable abbrev Q9:List Str:=["numbers","kind"]
noncomputable abbrev Q10:List Str:=["context","number"]
noncomputable abbrev Q11:List Str:=["context","sign","ideal"]
noncomputable abbrev Q12:List Str:=["context","sign","exact","ideal"]
noncomputable abbrev Q13:List Str:=["number","power"]
noncomputable abbrev Q14:List Str:=["self","power"]
noncomputable abbrev Q15:List Str:=["_law_cell","_law_k"]
noncomputable abbrev Q16:List Str:=["_law_cell","_law_most"]
noncomputable abbrev Q17:List Str:=["_law_frame_here","_law_sign","_law_ideal"]
noncomputable abbrev Q18:List Str:=["_law_figures_here"]
noncomputable abbrev Q19:List Str:=["_law_frame_here","_law_sign","_law_value","_law_ideal"]
noncomputable abbrev Q20:List Str:=["size","middle"]
noncomputable abbrev Q21:List Str:=["self","top","bottom","power"]
noncomputable abbrev Q22:List Str:=["self","names"]
noncomputable abbrev Q23:List Str:=["ideal","sign","figures","power"]
noncomputable abbrev Q24:List Str:=["context","sign","pair"]
noncomputable abbrev Q25:List Str:=["context","sign","figures","power"]
noncomputable abbrev Q26:List Str:=["context","exact"]
noncomputable abbrev Q27:List Str:=["self","top","power"]
noncomputable abbrev Q28:List Str:=["_law_value","_law_power"]
noncomputable abbrev Q29:List Str:=["sign","figures","power"]
noncomputable abbrev Q30:List Str:=["part","is_cut"]
noncomputable abbrev Q31:List Str:=["context","lead","part"]
noncomputable abbrev Q32:List Str:=["_law_script","_law_k"]
noncomputable abbrev Q33:List Str:=["_law_frame_here"]
noncomputable abbrev Q34:List Str:=["_law_way","_law_sign","_law_last","_law_part"]
noncomputable abbrev Q35:List Str:=["context","one"]
noncomputable abbrev Q36:List Str:=["_law_frame_here","_law_one"]
noncomputable abbrev Q37:List Str:=["self","kind","sign","figures","power"]
noncomputable abbrev Q38:List Str:=["whole","count"]
noncomputable abbrev Q39:List Str:=["self","room","way","least","most"]
noncomputable abbrev Q40:List Str:=["self","signal"]
noncomputable abbrev Q41:List Str:=["context","one","other","ideal"]
noncomputable abbrev Q42:List Str:=["_law_room","_law_way","_law_most","_law_sign"]
noncomputable abbrev Q43:List Str:=["_law_frame_here","_law_one","_law_other"]
noncomputable abbrev Q44:List Str:=["_law_frame_here","_law_way","_law_one","_law_other"]
noncomputable abbrev Q45:List Str:=["_law_context_here","_law_way","_law_one","_law_other"]
noncomputable abbrev Q46:List Str:=["_law_context_here","_law_state","_law_cell"]
noncomputable abbrev Q47:List Str:=["_law_context_here","_law_state","_law_due_here","_law_names","_law_found"]
noncomputable abbrev Q48:List Str:=["self","power","shift","top","bottom","whole"]
noncomputable abbrev Q49:List Str:=["number","power","size"]
noncomputable abbrev Q50:List Str:=["burst","off","cut"]
noncomputable abbrev Q51:List Str:=["_law_name","_law_state","_law_names"]
variable{P:Program}{w:World}{K:Frag}{mg:Str ->Option Value}{base:Heap}
structure G8f(K:Frag):Prop where
 isi:nsIn K mainGlobals "isinstance"=some none
 int_:nsIn K mainGlobals "int"=some none
 bool_:nsIn K mainGlobals "bool"=some none
 str_:nsIn K mainGlobals "str"=some none
 list_:nsIn K mainGlobals "list"=some none
 tuple_:nsIn K mainGlobals "tuple"=some none
 dict_:nsIn K mainGlobals "dict"=some none
 len_:nsIn K mainGlobals "len"=some none
 range_:nsIn K mainGlobals "range"=some none
 min_:nsIn K mainGlobals "min"=some none
 max_:nsIn K mainGlobals "max"=some none
 abs_:nsIn K mainGlobals "abs"=some none
 any_:nsIn K mainGlobals "any"=some none
 all_:nsIn K mainGlobals "all"=some none
 sum_:nsIn K mainGlobals "sum"=some none
 repr_:nsIn K mainGlobals "repr"=some none
 enumerate_:nsIn K mainGlobals "enumerate"=some none
 reversed_:nsIn K mainGlobals "reversed"=some none
 zip_:nsIn K mainGlobals "zip"=some none
 sorted_:nsIn K mainGlobals "sorted"=some none
 divmod_:nsIn K mainGlobals "divmod"=some none
 set_:nsIn K mainGlobals "set"=some none
 ValueError_:nsIn K mainGlobals "ValueError"=some none
theorem G8f.go{K:Frag}{h:Heap}{mg:Str ->Option Value}(u:G8f K)(X:K.In h)(G:h.Ns mainGlobals mg):Own mg:=⟨mg_none_of X G u.isi,mg_none_of X G u.int_,mg_none_of X G u.bool_,mg_none_of X G u.str_,mg_none_of X G u.list_,mg_none_of X G u.tuple_,mg_none_of X G u.dict_,mg_none_of X G u.len_,mg_none_of X G u.range_,mg_none_of X G u.min_,mg_none_of X G u.max_,mg_none_of X G u.abs_,mg_none_of X G u.any_,mg_none_of X G u.all_,mg_none_of X G u.sum_,mg_none_of X G u.repr_,mg_none_of X G u.enumerate_,mg_none_of X G u.reversed_,mg_none_of X G u.zip_,mg_none_of X G u.sorted_,mg_none_of X G u.divmod_,mg_none_of X G u.set_,mg_none_of X G u.ValueError_⟩
seal PE PS PSs PA PT PW PG PGs PI PO
noncomputable abbrev sr (a:Addr):Option V:=some (.ref a)
noncomputable abbrev si (a:Int):Option V:=some (.int a)
noncomputable abbrev sR (a:Str):Option V:=some (.str a)
noncomputable abbrev sI (P:Program) (w:World) (K:Frag) (mg:Str ->Option Value) (base:Heap):=A8 P w K mg base (CX1 P w)
noncomputable def top (i:Nat):Stmt:=PySem.Challenge.pw_tenreckon_k36_whole_rows_of_deeds.main.body.getD i (.Pass ⟨0,0,0,0⟩)
noncomputable abbrev C2j:Stmt:=(top 20)
noncomputable def J2x (K:Frag):Sp:=fun vs H Q _=>∃v lo hi,vs=[v,.int lo,.int hi]/\((A6t lo hi v/\Q (.bl true) H)\/(B4s K H lo hi v/\Q (.bl false) H))
theorem J2w:B7 Q7 Q7 (A7 C2j):=scK
theorem D2n(D:Def K mg "is_between" Q7 C2j f fd)(O:Own mg)(T:Kit K):sI P w K mg base 1 f fd Q7 (J2x K):=by
 refine A8.up (D.F.ok J2w (fun vs H Q E h=>?_) (fun cdv A outer s H vs Q E hr h=>?_))
 . obtain⟨v,lo,hi,rfl,_⟩:=h
   rfl
 obtain⟨v,lo,hi,rfl,h⟩:=h
 refine⟨_,(A4 (D9 (PW.pt (B0v (A3c (V5 (B4v O.isi (pv 0) (pty O.int_ boot_int)))) (A5w (V5 (B4v O.isi (pv 0) (pty O.bool_ boot_bool)))))) (A5 (B0 A2a)) C6) (A5 (B0 (A2s (G3 C4y (pv 0) (pv 1) (B8 _)) (A1d (G3 G4r (pv 0) (pv 2) (B8 _))))))),?_⟩
 rcases h with⟨⟨i,rfl,h1,h2⟩,k⟩|⟨⟨t,b1,b2,ty,k1,k2,bad⟩,k⟩
 . refine⟨_,rfl,_,_,_,_,true,rfl,rfl,G4k i,T.int_int,_,rfl,U6 ?_⟩
   refine⟨_,rfl,_,_,_,_,false,rfl,rfl,G4k i,T.int_bool,_,rfl,U6 ?_⟩
   refine⟨_,rfl,_,rfl,_,_,rfl,rfl,_,rfl,A1f h1 ?_⟩
   refine⟨_,rfl,_,rfl,_,_,rfl,rfl,?_⟩
   show Q (.bl (decide (i<=hi))) H
   rw[decide_eq_true h2]
   exact k
 refine⟨_,rfl,_,_,_,_,b1,rfl,rfl,ty,k1,_,rfl,?_⟩
 cases b1 with
 |false=>exact Y3 (Y3 k)
 | true=>
   refine U6 ⟨_,rfl,_,_,_,_,b2,rfl,rfl,ty,k2,_,rfl,?_⟩
   cases b2 with
   |true=>exact Y3 k
   | false=>
     obtain⟨i,rfl,out⟩:=bad.resolve_left (by decide)
     refine U6 ⟨_,rfl,_,rfl,_,_,rfl,rfl,_,rfl,G8 (fun h1=>?_) (fun h1=>?_)⟩
     . refine⟨_,rfl,_,rfl,_,_,rfl,rfl,?_⟩
       show Q (.bl (decide (i<=hi))) H
       rw[decide_eq_false (by omega:¬i<=hi)]
       exact k
     . exact k
structure Err(K:Frag)(mg:Str ->Option Value)(x:Str)(CB:Addr):Prop where
 g:mg x=some (.ref CB)
 q:excIn K CB [.type "ValueError",.type "Exception",.type "BaseException",.type "object"] "ValueError.__new__"=true
noncomputable def A8f (lo hi:Int):Prop:=lo.natAbs.log2<1920/\hi.natAbs.log2<1920/\(Str.ofString (toString lo)).length<=100/\(Str.ofString (toString hi)).length<=100
noncomputable abbrev A8b:Stmt:=(top 36)
noncomputable def B6d (K:Frag) (CB:Addr):Sp:=fun vs H Q E=>∃v lo hi,vs=[v,.int lo,.int hi]/\A8f lo hi/\((A6t lo hi v/\Q v H)\/(B4s K H lo hi v/\E (.ref CB) none H))
theorem C8g:B7 Q7 Q7 (A7 A8b):=scK
theorem C1h{f f1 CB:Addr}(D:Def K mg "bounded" Q7 A8b f fd)(D1:Def K mg "is_between" Q7 C2j f1 fd1)(O:Own mg)(T:Kit K)(B:Err K mg "BadContext" CB):
   sI P w K mg base 2 f fd Q7 (B6d K CB):=by
 have G1:=D2n (P:=P) (w:=w) (base:=base) D1 O T
 refine D.F.okE C8g (fun vs H Q E h=>?_) (fun X cdv A outer s H vs Q E hX hr hx h=>?_)
 . obtain⟨v,lo,hi,rfl,_⟩:=h
   rfl
 subst hX
 obtain⟨v,lo,hi,rfl,⟨l1,l2,l3,l4⟩,h⟩:=h
 refine⟨_,(A4 (D9 (A3c (V5 (C4 D1 G1 hr hx (A0 (pv 0) (A0 (pv 1) (A0 (pv 2) A3)))))) (A5 (A2v (by rfl) B.g B.q PySem.F.excBase_ValueError hr.hd hx (A0 (C5s (.cons .lit (.cons (.int (pv 1)) (.cons .lit (.cons (.int (pv 2)) .nil))))) A3))) C6) (A5 (B0 (pv 0)))),?_⟩
 rcases h with⟨g,k⟩|⟨bad,k⟩
 . exact⟨_,rfl,_,rfl,_,rfl,_,_,_,rfl,.inl ⟨g,_,rfl,U6 ⟨_,rfl,k⟩⟩⟩
 have a0:Str.empty.length=0:=rfl
 have a1:(Str.ofString "not a whole number from ").length=24:=by decide+kernel
 have a2:(Str.ofString " to ").length=4:=by decide+kernel
 have sz:∀{n:Nat},n<=1000 ->n<=sizeLine:=fun h=>Nat.le_of_lt (Y8 h)
 refine⟨_,rfl,_,rfl,_,rfl,_,_,_,rfl,.inr ⟨bad,_,rfl,Y3 ?_⟩⟩
 exact⟨_,rfl,sz (by rw[strLen_append];omega),_,rfl,_,rfl,l1,_,rfl,sz (by rw[strLen_append,strLen_append];omega),_,rfl,sz (by rw[strLen_append,strLen_append,strLen_append];omega),_,rfl,_,rfl,l2,_,rfl,sz (by rw[strLen_append,strLen_append,strLen_append,strLen_append];omega),sz (by rw[strLen_append,strLen_append,strLen_append,strLen_append];omega),sz (by show 1<=1000;decide),k⟩
noncomputable abbrev A5e:Stmt:=(top 21)
noncomputable def C8j (K:Frag) (CB:Addr):Sp:=fun vs H Q E=>∃v lo hi,vs=[v,.int lo,.int hi]/\A8f lo hi/\
 ((A6t lo hi v/\Q .non H)\/(B4s K H lo hi v/\E (.ref CB) none H))
theorem C6x:B7 Q7 Q7 (A7 A5e):=scK
theorem B2s{f f1 CB:Addr}(D:Def K mg "need_between" Q7 A5e f fd)(D1:Def K mg "is_between" Q7 C2j f1 fd1)(O:Own mg)(T:Kit K)(B:Err K mg "BadNumber" CB):
   sI P w K mg base 2 f fd Q7 (C8j K CB):=by
 have G1:=D2n (P:=P) (w:=w) (base:=base) D1 O T
 refine D.F.okE C6x (fun vs H Q E h=>?_) (fun X cdv A outer s H vs Q E hX hr hx h=>?_)
 . obtain⟨v,lo,hi,rfl,_⟩:=h
   rfl
 subst hX
 obtain⟨v,lo,hi,rfl,⟨l1,l2,l3,l4⟩,h⟩:=h
 refine⟨_,(A5 (D9 (A3c (V5 (C4 D1 G1 hr hx (A0 (pv 0) (A0 (pv 1) (A0 (pv 2) A3)))))) (A5 (A2v (by rfl) B.g B.q PySem.F.excBase_ValueError hr.hd hx (A0 (C5s (.cons .lit (.cons (.int (pv 1)) (.cons .lit (.cons (.int (pv 2)) .nil))))) A3))) C6)),?_⟩
 rcases h with⟨g,k⟩|⟨bad,k⟩
 . exact⟨_,rfl,_,rfl,_,rfl,_,_,_,rfl,.inl ⟨g,_,rfl,U6 k⟩⟩
 have a0:Str.empty.length=0:=rfl
 have a1:(Str.ofString "not a whole number from ").length=24:=by decide+kernel
 have a2:(Str.ofString " to ").length=4:=by decide+kernel
 have sz:∀{n:Nat},n<=1000 ->n<=sizeLine:=fun h=>Nat.le_of_lt (Y8 h)
 refine⟨_,rfl,_,rfl,_,rfl,_,_,_,rfl,.inr ⟨bad,_,rfl,Y3 ?_⟩⟩
 exact⟨_,rfl,sz (by rw[strLen_append];omega),_,rfl,_,rfl,l1,_,rfl,sz (by rw[strLen_append,strLen_append];omega),_,rfl,sz (by rw[strLen_append,strLen_append,strLen_append];omega),_,rfl,_,rfl,l2,_,rfl,sz (by rw[strLen_append,strLen_append,strLen_append,strLen_append];omega),sz (by rw[strLen_append,strLen_append,strLen_append,strLen_append];omega),sz (by show 1<=1000;decide),k⟩
noncomputable abbrev B5x:Stmt:=(G6 (top 9) 0)
noncomputable abbrev B9w:Stmt:=(top 13)
noncomputable abbrev A5d:Stmt:=(top 15)
structure Num(K:Frag)(mg:Str ->Option Value)(CN:Addr):Prop where
 g:mg "Number"=some (.ref CN)
 cl:Cls K CN
 n1:Y6 K CN "kind"
 n2:Y6 K CN "sign"
 n3:Y6 K CN "figures"
 n4:Y6 K CN "power"
 ca:findIn K (.ref CN) "__class__"=some (some (.builtin "object.__class__"))
 sn:specialIn K (.builtin "object.__class__") "__get__"=some (some (.builtin "getset_descriptor.__get__"))
 tk:takesIn K (.builtin "object.__class__")=some true
 ob:mroIn K CN (.type "object")=some true
 self:kitOne K (.ref CN) (.ref CN)=some true
noncomputable def B1b (k s f p:V):List (Str×V):=putF "power" p (putF "figures" f (putF "sign" s (putF "kind" k [])))
theorem e12:¬(("kind":Str)="sign"):=by decide+kernel
theorem e13:¬(("kind":Str)="figures"):=by decide+kernel
theorem e14:¬(("kind":Str)="power"):=by decide+kernel
theorem e23:¬(("sign":Str)="figures"):=by decide+kernel
theorem e24:¬(("sign":Str)="power"):=by decide+kernel
theorem e34:¬(("figures":Str)="power"):=by decide+kernel
theorem A3q(k s f p:V):(B1b k s f p).lookup ("kind":Str)=some k:=by unfold B1b;rw[G2,if_neg e14,G2,if_neg e13,G2,if_neg e12,G2,if_pos rfl]
theorem A4c(k s f p:V):(B1b k s f p).lookup ("sign":Str)=some s:=by unfold B1b;rw[G2,if_neg e24,G2,if_neg e23,G2,if_pos rfl]
theorem A4n(k s f p:V):(B1b k s f p).lookup ("figures":Str)=some f:=by unfold B1b;rw[G2,if_neg e34,G2,if_pos rfl]
theorem A2f(k s f p:V):(B1b k s f p).lookup ("power":Str)=some p:=by unfold B1b;rw[G2,if_pos rfl]
noncomputable def A2b (CN:Addr) (H:Hp) (n:Addr) (k s f p:V):Prop:=∃dx,H n=some (.ins CN dx (B1b k s f p))
theorem A2b.same{CN:Addr}{H H':Hp}{n:Addr}{k s f p:V}(h:A2b CN H n k s f p)(e:B5 H H'):A2b CN H' n k s f p:=by
 obtain⟨dx,z⟩:=h
 exact⟨dx,e _ _ z⟩
theorem Num.ty{K:Frag}{mg:Str ->Option Value}{CN:Addr}(N:Num K mg CN){H:Hp}{n:Addr}{k s f p:V}(h:A2b CN H n k s f p):TyE K H (.ref n) (.ref CN):=by
 obtain⟨dx,z⟩:=h
 exact .of (.ins z N.cl N.ca N.sn N.tk N.ob)
noncomputable def B8g (CN:Addr):Sp:=fun vs H Q _=>∃(p dx:Addr) (k s f pw:V),vs=[.ref p,k,s,f,pw]/\H p=some (.ins CN dx [])/\∀H',H' p=some (.ins CN dx (B1b k s f pw)) ->(∀b o,H b=some o ->b≠p ->H' b=some o) ->Q .non H'
theorem G5h:B7 Q37 Q37 (A7 B5x):=scK
theorem G1u{f CN:Addr}(F:Fun K "__init__" "Number.__init__" B5x f fd)(N:Num K mg CN):A8 P w K mg base CX0 1 f fd Q37 (B8g CN):=by
 refine F.ok G5h (fun vs H Q E h=>?_) (fun cdv A outer s H vs Q E hr h=>?_)
 . obtain⟨p,dx,a,b,c,d,rfl,_⟩:=h
   rfl
 obtain⟨p,dx,a,b,c,d,rfl,hp,k⟩:=h
 refine⟨_,A4 (A0c (pv 0) (pv 1) rfl) (A4 (A0c (pv 0) (pv 2) rfl) (A4 (A0c (pv 0) (pv 3) rfl) (A5 (A0c (pv 0) (pv 4) rfl)))),?_⟩
 have l:∀(fs:List (Str×V)) (f:Str) (v:V) (n:Nat),fs.length<=n ->(putF f v fs).length<=n+1:=fun fs f v n h=>Nat.le_trans (A0u f v fs) (Nat.succ_le_succ h)
 refine⟨_,rfl,_,rfl,p,CN,dx,[],rfl,hp,N.cl,N.n1,(by show 0<1000;decide),?_⟩
 refine⟨_,rfl,_,rfl,p,CN,dx,_,rfl,A6,N.cl,N.n2,Nat.lt_of_le_of_lt (l _ _ _ 0 (Nat.le_refl _)) (by decide),?_⟩
 refine⟨_,rfl,_,rfl,p,CN,dx,_,rfl,A6,N.cl,N.n3,Nat.lt_of_le_of_lt (l _ _ _ 1 (l _ _ _ 0 (Nat.le_refl _))) (by decide),?_⟩
 refine⟨_,rfl,_,rfl,p,CN,dx,_,rfl,A6,N.cl,N.n4,Nat.lt_of_le_of_lt (l _ _ _ 2 (l _ _ _ 1 (l _ _ _ 0 (Nat.le_refl _)))) (by decide),?_⟩
 refine k _ A6 fun b o e hb=>?_
 rw[D5 hb,D5 hb,D5 hb,D5 hb]
 exact e
structure A6v(P:Program)(w:World)(K:Frag)(mg:Str ->Option Value)(base:Heap)(CN fI:Addr)(fdI:FuncData):Prop where
 m:Mk K CN fI
 g:A8 P w K mg base CX0 1 fI fdI Q37 (B8g CN)
 b:Binds K fdI Q37 []
theorem made{CN:Addr}{H:Hp}{Q:VK}{k s f p:V}(h:∀n H',H n=none ->B5 H H' ->A2b CN H' n k s f p ->Q (.ref n) H'):
   ∀x dx,H x=none ->H dx=none ->dx≠x ->B8g CN (.ref x::([k,s,f,p]++ [])) (upd (upd H dx (.own x)) x (.ins CN dx [])) (fun v H2=>v= .non/\Q (.ref x) H2) E0:=by
 intro x dx nx nd ne
 refine⟨x,dx,k,s,f,p,rfl,A6,fun H' e kp=>⟨rfl,h x H' nx (fun b o z=>?_) ⟨dx,e⟩⟩⟩
 refine kp b o ?_ (C9 z nx)
 rw[D5 (C9 z nx),D5 (C9 z nd)]
 exact z
noncomputable def C2n (K:Frag) (CN:Addr) (H:Hp) (v:V):Prop:=∃t,TyE K H v t/\kitOne K t (.ref CN)=some false
noncomputable def A8z (K:Frag) (CN CB:Addr):Sp:=fun vs H Q E=>∃v,vs=[v]/\((∃n k s f p,v= .ref n/\A2b CN H n k s f p/\Q v H)\/(C2n K CN H v/\E (.ref CB) none H))
theorem G1x:B7 ["thing"] ["thing"] (A7 A5d):=scK
theorem B9p{f CN CB:Addr}(D:Def K mg "need_number" ["thing"] A5d f fd)(O:Own mg)(T:Kit K)(B:Err K mg "BadNumber" CB)(N:Num K mg CN):sI P w K mg base 1 f fd ["thing"] (A8z K CN CB):=by
 refine D.F.okE G1x (fun vs H Q E h=>?_) (fun X cdv A outer s H vs Q E hX hr hx h=>?_)
 . obtain⟨v,rfl,_⟩:=h
   rfl
 subst hX
 obtain⟨v,rfl,h⟩:=h
 refine⟨_,(A4 (D9 (A3c (V5 (B4v O.isi (pv 0) (C2g N.g)))) (A5 (A2v (by rfl) B.g B.q PySem.F.excBase_ValueError hr.hd hx (A0 C5 A3))) C6) (A5 (B0 (pv 0)))),?_⟩
 rcases h with⟨n,a,b,c,d,rfl,hn,k⟩|⟨⟨t,ty,k1⟩,k⟩
 . exact⟨_,rfl,_,_,_,_,true,rfl,rfl,N.ty hn,N.self,_,rfl,U6 ⟨_,rfl,k⟩⟩
 exact⟨_,rfl,_,_,_,t,false,rfl,rfl,ty,k1,_,rfl,Y3 ⟨Nat.le_of_lt (Y8 (by show 1<=1000;decide)),k⟩⟩
noncomputable def C1y (K:Frag) (CN CB:Addr):Sp:=fun vs H Q E=>∃v,vs=[v]/\((∃n k s f p,v= .ref n/\A2b CN H n k s f p/\∀t,H t=none ->Q (.ref t) (upd H t (.tup [k,s,f,p])))\/(C2n K CN H v/\E (.ref CB) none H))
theorem G7y:B7 ["number"] ["number"] (A7 B9w):=scK
theorem G1q{f f1 CN CB:Addr}(D:Def K mg "told" ["number"] B9w f fd)(dA:Def K mg "need_number" ["thing"] A5d f1 fd1)(O:Own mg)(T:Kit K)(B:Err K mg "BadNumber" CB)(N:Num K mg CN):
   sI P w K mg base 2 f fd ["number"] (C1y K CN CB):=by
 have G_need_number:=B9p (P:=P) (w:=w) (base:=base) dA O T B N
 refine D.F.okE G7y (fun vs H Q E h=>?_) (fun X cdv A outer s H vs Q E hX hr hx h=>?_)
 . obtain⟨v,rfl,_⟩:=h
   rfl
 subst hX
 obtain⟨v,rfl,h⟩:=h
 refine⟨_,(A4 (U9 (C4 dA G_need_number hr hx (A0 (pv 0) A3))) (A5 (B0 (U4 (A0 (D3 (pv 0) rfl) (A0 (D3 (pv 0) rfl) (A0 (D3 (pv 0) rfl) (A0 (D3 (pv 0) rfl) A3)))))))),?_⟩
 rcases h with⟨n,a,b,c,d,rfl,hn,k⟩|⟨bad,k⟩
 . refine⟨_,rfl,_,rfl,.inl ⟨n,a,b,c,d,rfl,hn,?_⟩⟩
   obtain⟨dx,e⟩:=hn
   exact⟨_,rfl,n,CN,dx,_,_,rfl,e,N.cl,N.n1,A3q _ _ _ _,_,rfl,n,CN,dx,_,_,rfl,e,N.cl,N.n2,A4c _ _ _ _,_,rfl,n,CN,dx,_,_,rfl,e,N.cl,N.n3,A4n _ _ _ _,_,rfl,n,CN,dx,_,_,rfl,e,N.cl,N.n4,A2f _ _ _ _,
     Nat.le_of_lt (Y8 (by show 4<=1000;decide)),k⟩
 exact⟨_,rfl,_,rfl,.inr ⟨bad,k⟩⟩
noncomputable abbrev B7n:Stmt:=(top 10)
noncomputable abbrev C2s:Stmt:=(top 11)
noncomputable abbrev A0z:Stmt:=(top 12)
noncomputable def C4b (K:Frag) (CN CB:Addr):Sp:=fun vs H Q E=>∃x y z,vs=[x,y,z]/\
 ((A6t 0 1 x/\A6t 0 (10^60-1) y/\A6t (-200) 200 z/\∀n H',H n=none ->B5 H H' ->A2b CN H' n (.str "plain") x y z ->Q (.ref n) H')\/
  ((B4s K H 0 1 x\/(A6t 0 1 x/\(B4s K H 0 (10^60-1) y\/(A6t 0 (10^60-1) y/\B4s K H (-200) 200 z))))/\E (.ref CB) none H))
theorem G3x:B7 Q29 Q29 (A7 B7n):=scK
theorem b01:A8f 0 1:=by unfold A8f;decide+kernel
theorem b60:A8f 0 (10^60-1):=by unfold A8f;decide+kernel
theorem J3j:A8f (-200) 200:=by unfold A8f;decide+kernel
theorem D1n{f f1 f2 fI CN CB:Addr}{fd fd1 fd2 fdI:FuncData}(D:Def K mg "plain" Q29 B7n f fd)(dA:Def K mg "need_between" Q7 A5e f1 fd1)(D2:Def K mg "is_between" Q7 C2j f2 fd2)
   (O:Own mg) (T:Kit K) (B:Err K mg "BadNumber" CB) (N:Num K mg CN) (M:A6v P w K mg base CN fI fdI):sI P w K mg base 3 f fd Q29 (C4b K CN CB):=by
 have G_need_between:=B2s (P:=P) (w:=w) (base:=base) dA D2 O T B
 refine D.F.okE G3x (fun vs H Q E h=>?_) (fun X cdv A outer s H vs Q E hX hr hx h=>?_)
 . obtain⟨x,y,z,rfl,_⟩:=h
   rfl
 subst hX
 obtain⟨x,y,z,rfl,h⟩:=h
 refine⟨_,(A4 (U9 (C4 dA G_need_between hr hx (A0 (pv 0) (A0 A1 (A0 A1 A3))))) (A4 (U9 (C4 dA G_need_between hr hx (A0 (pv 1) (A0 A1 (A0 (A9 U2 (A9 D0e A1 A1) A1) A3))))) (A4 (U9 (C4 dA G_need_between hr hx (A0 (pv 2) (A0 (A4z A2c A1) (A0 A1 A3))))) (A5 (B0 (B8a M.m M.g hr rfl N.g M.b .nil D1v (A0 C5 (A0 (pv 0) (A0 (pv 1) (A0 (pv 2) A3)))))))))),?_⟩
 have pw:G0a 10 60:=⟨by decide,by decide,by decide⟩
 rcases h with⟨⟨i1,rfl,l1,u1⟩,⟨i2,rfl,l2,u2⟩,⟨i3,rfl,l3,u3⟩,k⟩|⟨bad,k⟩
 . refine⟨_,rfl,_,_,_,rfl,b01,.inl ⟨⟨i1,rfl,l1,u1⟩,?_⟩⟩
   refine⟨_,rfl,_,_,rfl,rfl,pw,_,_,rfl,rfl,_,_,_,rfl,b60,.inl ⟨⟨i2,rfl,l2,u2⟩,?_⟩⟩
   refine⟨_,rfl,_,rfl,_,_,_,rfl,J3j,.inl ⟨⟨i3,rfl,l3,u3⟩,?_⟩⟩
   exact⟨_,rfl,_,rfl,_,rfl,made k⟩
 rcases bad with bad|⟨⟨i1,rfl,l1,u1⟩,bad|⟨⟨i2,rfl,l2,u2⟩,bad⟩⟩
 . exact⟨_,rfl,_,_,_,rfl,b01,.inr ⟨bad,k⟩⟩
 . refine⟨_,rfl,_,_,_,rfl,b01,.inl ⟨⟨i1,rfl,l1,u1⟩,?_⟩⟩
   exact⟨_,rfl,_,_,rfl,rfl,pw,_,_,rfl,rfl,_,_,_,rfl,b60,.inr ⟨bad,k⟩⟩
 refine⟨_,rfl,_,_,_,rfl,b01,.inl ⟨⟨i1,rfl,l1,u1⟩,?_⟩⟩
 refine⟨_,rfl,_,_,rfl,rfl,pw,_,_,rfl,rfl,_,_,_,rfl,b60,.inl ⟨⟨i2,rfl,l2,u2⟩,?_⟩⟩
 exact⟨_,rfl,_,rfl,_,_,_,rfl,J3j,.inr ⟨bad,k⟩⟩
noncomputable def B9z (K:Frag) (CN CB:Addr):Sp:=fun vs H Q E=>∃x,vs=[x]/\((A6t 0 1 x/\∀n H',H n=none ->B5 H H' ->A2b CN H' n (.str "end") x (.int 0) (.int 0) ->Q (.ref n) H')\/(B4s K H 0 1 x/\E (.ref CB) none H))
theorem J2d:B7 ["sign"] ["sign"] (A7 C2s):=scK
theorem G7n{f f1 f2 fI CN CB:Addr}{fd fd1 fd2 fdI:FuncData}(D:Def K mg "end" ["sign"] C2s f fd)(dA:Def K mg "need_between" Q7 A5e f1 fd1)(D2:Def K mg "is_between" Q7 C2j f2 fd2)
   (O:Own mg) (T:Kit K) (B:Err K mg "BadNumber" CB) (N:Num K mg CN) (M:A6v P w K mg base CN fI fdI):sI P w K mg base 3 f fd ["sign"] (B9z K CN CB):=by
 have G_need_between:=B2s (P:=P) (w:=w) (base:=base) dA D2 O T B
 refine D.F.okE J2d (fun vs H Q E h=>?_) (fun X cdv A outer s H vs Q E hX hr hx h=>?_)
 . obtain⟨x,rfl,_⟩:=h
   rfl
 subst hX
 obtain⟨x,rfl,h⟩:=h
 refine⟨_,(A4 (U9 (C4 dA G_need_between hr hx (A0 (pv 0) (A0 A1 (A0 A1 A3))))) (A5 (B0 (B8a M.m M.g hr rfl N.g M.b .nil D1v (A0 C5 (A0 (pv 0) (A0 A1 (A0 A1 A3)))))))),?_⟩
 rcases h with⟨⟨i1,rfl,l1,u1⟩,k⟩|⟨bad,k⟩
 . refine⟨_,rfl,_,_,_,rfl,b01,.inl ⟨⟨i1,rfl,l1,u1⟩,?_⟩⟩
   exact⟨_,rfl,made k⟩
 exact⟨_,rfl,_,_,_,rfl,b01,.inr ⟨bad,k⟩⟩
noncomputable def A1m (CN:Addr):Sp:=fun vs H Q _=>vs=[]/\∀n H',H n=none ->B5 H H' ->A2b CN H' n (.str "none") (.int 0) (.int 0) (.int 0) ->Q (.ref n) H'
theorem C9d:B7 [] [] (A7 A0z):=scK
theorem C2z{f fI CN:Addr}{fd fdI:FuncData}(D:Def K mg "nothing" [] A0z f fd)(N:Num K mg CN)(M:A6v P w K mg base CN fI fdI):sI P w K mg base 3 f fd [] (A1m CN):=by
 refine D.F.okE C9d (fun vs H Q E h=>?_) (fun X cdv A outer s H vs Q E hX hr hx h=>?_)
 . obtain⟨rfl,_⟩:=h
   rfl
 subst hX
 obtain⟨rfl,k⟩:=h
 refine⟨_,(A5 (B0 (B8a M.m M.g hr rfl N.g M.b .nil D1v (A0 C5 (A0 A1 (A0 A1 (A0 A1 A3))))))),?_⟩
 exact made k
noncomputable abbrev C5a:Stmt:=(top 14)
noncomputable def D2w (CN:Addr):Sp:=fun vs H Q _=>∃n k s f p,vs=[.ref n]/\A2b CN H n k s (.int f) (.int p)/\f.natAbs<2^300/\Q (.int (p+((Str.ofString (toString f)).length:Nat)-1)) H
theorem G6r:B7 ["number"] ["number"] (A7 C5a):=scK
theorem G2s{f CN:Addr}(D:Def K mg "lead_of" ["number"] C5a f fd)(O:Own mg)(N:Num K mg CN):sI P w K mg base 1 f fd ["number"] (D2w CN):=by
 refine D.F.okE G6r (fun vs H Q E h=>?_) (fun X cdv A outer s H vs Q E hX hr hx h=>?_)
 . obtain⟨n,a,b,c,d,rfl,_⟩:=h
   rfl
 subst hX
 obtain⟨n,a,b,fg,pw,rfl,⟨dx,e⟩,hf,k⟩:=h
 refine⟨_,(A5 (B0 (A9 U2 (A9 G9 (D3 (pv 0) rfl) (G7 B7t (by rfl) O.len_ PySem.boot_len (A0 (Y7 B7d (by rfl) O.str_ boot_str (A0 (D3 (pv 0) rfl) A3)) A3))) A1))),?_⟩
 have lg:fg.natAbs.log2<1920:=Nat.lt_trans (A0r hf (by decide)) (by decide)
 exact⟨_,rfl,n,CN,dx,_,_,rfl,e,N.cl,N.n4,A2f _ _ _ _,_,rfl,n,CN,dx,_,_,rfl,e,N.cl,N.n3,A4n _ _ _ _,_,rfl,lg,_,rfl,int_text_fits lg,_,_,rfl,rfl,_,_,rfl,rfl,k⟩
noncomputable abbrev A4m:Stmt:=(top 6)
noncomputable abbrev A1k:Stmt:=(top 7)
theorem A4f{x k:Nat}(h:x<2^k)(hk:k<=1048576):Builtin.Int.intBits (x:Int)<=2^20:=by
 unfold Builtin.Int.intBits
 split
 . exact Nat.zero_le _
 have z:(x:Int).natAbs≠0:=by
   intro z
   rename_i hz
   exact hz (by simpa using z)
 have:(x:Int).natAbs.log2<k:=(Nat.log2_lt z).mpr h
 have e:(2:Nat)^20=1048576:=by decide
 omega
theorem B4c{b s j n:Nat}(hb:b<2^s)(hj:j<=n)(hn:n*s<1048576):Builtin.Int.intBits ((b^j:Nat):Int)<=2^20:=by
 refine A4f (k:=n*s+1) ?_ hn
 have a:b^j<=(2^s)^j:=Nat.pow_le_pow_left (Nat.le_of_lt hb) j
 have c:(2^s)^j<=2^(n*s):=by
   rw[<-Nat.pow_mul,Nat.mul_comm n s]
   exact Nat.pow_le_pow_right (by decide) (Nat.mul_le_mul_left s hj)
 have d:2^(n*s)<2^(n*s+1):=Nat.pow_lt_pow_right (by decide) (by omega)
 exact Nat.lt_of_le_of_lt a (Nat.lt_of_le_of_lt c d)
theorem A9m{b s i j n:Nat}(hb:b<2^s)(hi:i<=n)(hj:j<=n)(hn:n*s<1048576):IntMulOk ((b^i:Nat):Int) ((b^j:Nat):Int):=IntMulOk.of_bits (B4c hb hi hn) (B4c hb hj hn)
noncomputable def B0w:Sp:=fun vs H Q _=>∃b n s:Nat,vs=[.int (b:Int),.int (n:Int)]/\b<2^s/\n*s<1048576/\Q (.int ((b^n:Nat):Int)) H
theorem scProductOf:B7 ["whole","count","product"] Q38 (A7 A4m):=scK
theorem B8e(D:Def K mg "product_of" Q38 A4m f fd):sI P w K mg base 1 f fd Q38 B0w:=by
 refine A8.up (D.F.ok scProductOf (fun vs H Q E h=>?_) (fun cdv A outer s H vs Q E hr h=>?_))
 . obtain⟨b,n,z,rfl,_⟩:=h
   rfl
 obtain⟨b,n,z,rfl,hb,hn,k⟩:=h
 refine⟨_,(A4 (D0 (i:=2) scProductOf.nd rfl (Or.inl rfl) A1) (A4 (A1y PassesOwn.never (B9 A5a (pv 1) A1 (B8 _)) (A4 (D9 (B9 D4 (A9 U3 (pv 1) A1) A1 (B8 _)) (A5 (D0 (i:=2) scProductOf.nd rfl (Or.inl rfl) (A9 G0 (pv 2) (pv 0)))) C6) (A4 (D0 (i:=0) scProductOf.nd rfl (Or.inl rfl) (A9 G0 (pv 0) (pv 0))) (A5 (D0 (i:=1) scProductOf.nd rfl (Or.inl rfl) (A9 D6 (pv 1) A1)))))) (A5 (B0 (pv 2))))),?_⟩
 have d2:(0:Int)<2/\(2:Int).natAbs.log2<9000:=⟨by decide,by decide+kernel⟩
 refine A1b (fun σ H2=>H2=H/\∃i m c:Nat,m+i*c=n/\σ=[si ((b^i:Nat):Int),si (c:Int),si ((b^m:Nat):Int)]) (fun σ _=>match σ with| [_,some (.int c),_]=>c.toNat|_=>0) ?_ ?_ ?_
 . exact⟨rfl,1,0,n,by omega,by rw[Nat.pow_one];rfl⟩
 . rintro σ H2 ⟨rfl,i,m,c,hc,rfl⟩
   refine⟨_,rfl,_,_,rfl,rfl,_,rfl,G8 (fun h0=>?_) (fun h0=>?_)⟩
   . have c1:1<=c:=by
       have:(0:Int)<c:=h0
       omega
     have hi:i<=n:=Nat.le_trans (Nat.le_mul_of_pos_right i c1) (by omega)
     have hm:m<=n:=by omega
     have sq:((b^i:Nat):Int)*((b^i:Nat):Int)=((b^(2*i):Nat):Int):=by rw[Nat.two_mul,Nat.pow_add];rfl
     have lt:((c:Int)/2).toNat<(c:Int).toNat:=by omega
     refine⟨_,rfl,_,_,rfl,rfl,d2.1,rfl,_,rfl,G8 (fun ho=>?_) (fun he=>?_)⟩
     . have ho:(c:Int) % 2=1:=by injection ho
       have mu:((b^m:Nat):Int)*((b^i:Nat):Int)=((b^(m+i):Nat):Int):=by rw[Nat.pow_add];rfl
       refine⟨_,rfl,_,rfl,_,_,rfl,rfl,A9m hb hm hi hn,_,rfl,_,rfl,_,_,rfl,rfl,A9m hb hi hi hn,_,rfl,_,_,rfl,rfl,d2,⟨rfl,2*i,m+i,c/2,?_,?_⟩,lt⟩
       . have e:i*c=i*(2*(c/2)+1):=congrArg (i* ·) (by omega)
         rw[Nat.mul_add,Nat.mul_one, <-Nat.mul_assoc,Nat.mul_comm i 2] at e
         omega
       . show [si (((b^i:Nat):Int)*((b^i:Nat):Int)),si ((c:Int)/2),si (((b^m:Nat):Int)*((b^i:Nat):Int))]=_
         rw[sq,mu]
         rfl
     . have he:¬(c:Int) % 2=1:=fun z=>he (congrArg V.int z)
       refine⟨_,rfl,_,rfl,_,_,rfl,rfl,A9m hb hi hi hn,_,rfl,_,_,rfl,rfl,d2,⟨rfl,2*i,m,c/2,?_,?_⟩,lt⟩
       . have e:i*c=i*(2*(c/2)):=congrArg (i* ·) (by omega)
         rw[<-Nat.mul_assoc,Nat.mul_comm i 2] at e
         omega
       . show [si (((b^i:Nat):Int)*((b^i:Nat):Int)),si ((c:Int)/2),si ((b^m:Nat):Int)]=_
         rw[sq]
         rfl
   . have c0:c=0:=by
       have:¬(0:Int)<c:=h0
       omega
     subst c0
     have hm:m=n:=by omega
     subst hm
     exact⟨_,rfl,k⟩
 rintro σ H2 Q1 Q2 hQ ⟨v,e,i,j,e1,e2,b,e3,q⟩
 exact⟨v,e,i,j,e1,e2,b,e3,hQ _ _ q⟩
noncomputable def A1t:Sp:=fun vs H Q _=>∃n:Nat,vs=[.int (n:Int)]/\n<=4000/\Q (.int ((10^n:Nat):Int)) H
theorem G2j:B7 ["count"] ["count"] (A7 A1k):=scK
theorem D3v(D:Def K mg "ten_to" ["count"] A1k f fd)(dA:Def K mg "product_of" Q38 A4m f1 fd1)(dB:sI P w K mg base 1 f1 fd1 Q38 B0w):sI P w K mg base 2 f fd ["count"] A1t:=by
 refine A8.up (D.F.ok G2j (fun vs H Q E h=>?_) (fun cdv A outer s H vs Q E hr h=>?_))
 . obtain⟨n,rfl,_⟩:=h
   rfl
 obtain⟨n,rfl,hn,k⟩:=h
 have hx:U0 (A1j CX0 P w K mg base ["count"] "ten_to" (A7 A1k) f cdv A outer s H E).nox EKF:=Y0
 refine⟨_,(A5 (B0 (C4 dA dB hr hx (A0 A1 (A0 (pv 0) A3))))),?_⟩
 exact⟨_,rfl,10,n,4,rfl,by decide,by omega,k⟩
inductive Kd where
 |plain|end_|none
noncomputable def Kd.str:Kd ->Str
 | .plain=>"plain"
 | .end_=>"end"
 | .none=>"none"
theorem Kd.str_inj{a b:Kd}(h:a.str=b.str):a=b:=by
 cases a<;>cases b<;>first|rfl|exact absurd h (by decide+kernel)
structure Nm where
 k:Kd
 s:Int
 f:Int
 p:Int
noncomputable def Nm.vs (x:Nm):List V:=[.str x.k.str,.int x.s,.int x.f,.int x.p]
structure Nm.Ok(x:Nm):Prop where
 s0:0<=x.s
 s1:x.s<=1
 f0:0<=x.f
 f1:x.f<=10^60-1
 p0: -200<=x.p
 p1:x.p<=200
noncomputable def V6 (CN:Addr) (H:Hp) (n:Addr) (x:Nm):Prop:=A2b CN H n (.str x.k.str) (.int x.s) (.int x.f) (.int x.p)
theorem V6.same{CN:Addr}{H H':Hp}{n:Addr}{x:Nm}(h:V6 CN H n x)(e:B5 H H'):V6 CN H' n x:=A2b.same h e
structure D4j(CN:Addr)(H:Hp)(l:Addr)(ns:List (Addr×Nm)):Prop where
 l:H l=some (.lst (ns.map fun p=>V.ref p.1))
 n:∀p∈ns,V6 CN H p.1 p.2
noncomputable def A2 (n:Int):Int:=((10^n.toNat:Nat):Int)
theorem C8(n:Int):0<A2 n:=Int.natCast_pos.mpr (Nat.pow_pos (by decide))
theorem neS{a b:Kd}(h:¬V.str a.str=V.str b.str):a≠b:=fun q=>h (by rw[q])
theorem eqS{a b:Kd}(h:V.str a.str=V.str b.str):a=b:=Kd.str_inj (by injection h)
structure Nm.Bg(x:Nm):Prop where
 f0:0<=x.f
 f1:x.f<A2 120
 p0: -400<=x.p
 p1:x.p<=400
theorem Nm.Ok.bg{x:Nm}(h:x.Ok):x.Bg:=⟨h.f0,Int.lt_of_le_of_lt h.f1 (by decide+kernel),by have:=h.p0;omega,by have:=h.p1;omega⟩
theorem Nm.Bg.bits{x:Nm}(h:x.Bg):Builtin.Int.intBits x.f<=2^20:=by
 obtain⟨n,hn⟩:=Int.eq_ofNat_of_zero_le h.f0
 rw[hn]
 refine A4f (k:=400) ?_ (by decide)
 have:=h.f1
 have e:A2 120=((10^120:Nat):Int):=rfl
 have:n<10^120:=by omega
 exact Nat.lt_trans this (by decide+kernel)
noncomputable abbrev A4s:Stmt:=(top 16)
noncomputable abbrev A3d:Stmt:=(top 17)
noncomputable abbrev A1e:Stmt:=(top 19)
noncomputable def A5u (K:Frag) (CN CB:Addr):Sp:=fun vs H Q E=>∃l ns,vs=[.ref l]/\(∀p∈(ns:List (Addr×Nm)),V6 CN H p.1 p.2)/\
 ((H l=some (.lst (ns.map fun p=>V.ref p.1))/\Q .non H)\/(∃v r,H l=some (.lst ((ns.map fun p=>V.ref p.1)++v::r))/\C2n K CN H v/\E (.ref CB) none H))
theorem scNeedNs:B7 ["things","thing"] ["things"] (A7 A4s):=scK
theorem C7r{f f1 CN CB:Addr}(D:Def K mg "need_numbers" ["things"] A4s f fd)(dA:Def K mg "need_number" ["thing"] A5d f1 fd1)(dB:sI P w K mg base 1 f1 fd1 ["thing"] (A8z K CN CB)):sI P w K mg base 2 f fd ["things"] (A5u K CN CB):=by
 refine D.F.okE scNeedNs (fun vs H Q E h=>?_) (fun X cdv A outer s H vs Q E hX hr hx h=>?_)
 . obtain⟨l,ns,rfl,_⟩:=h
   rfl
 subst hX
 obtain⟨l,ns,rfl,hn,h⟩:=h
 refine⟨_,(A5 (A9u PassesOwn.leaving rfl (A9c (pv 0)) (U1 (i:=1) scNeedNs.nd rfl (Or.inl rfl)) (A5 (U9 (C4 dA dB hr hx (A0 (pv 1) A3)))))),?_⟩
 rcases h with⟨hl,k⟩|⟨v,r,hl,nv,k⟩
 . refine⟨_,rfl,l,rfl,⟨_,SqL.of hl⟩,A5h (xs:=ns.map fun p=>V.ref p.1) (fun i σ H'=>H'=H/\∃v,σ=[sr l,v]) ⟨rfl,none,rfl⟩ ?_ ?_ ?_⟩
   . rintro i σ H' _ ⟨rfl,_⟩
     exact SqL.of hl
   . rintro i x σ H' hi ⟨rfl,v,rfl⟩
     obtain⟨p,hp,rfl⟩:=List.mem_map.mp (List.mem_of_getElem? hi)
     exact⟨_,rfl,_,rfl,.inl ⟨p.1,_,_,_,_,rfl,hn p hp,rfl,_,rfl⟩⟩
   . rintro σ H' ⟨rfl,v,rfl⟩
     exact k
 refine⟨_,rfl,l,rfl,⟨_,SqL.of hl⟩,A5h (xs:=(ns.map fun p=>V.ref p.1)++v::r) (fun i σ H'=>H'=H/\i<=ns.length/\∃v,σ=[sr l,v]) ⟨rfl,Nat.zero_le _,none,rfl⟩ ?_ ?_ ?_⟩
 . rintro i σ H' _ ⟨rfl,_⟩
   exact SqL.of hl
 . rintro i x σ H' hi ⟨rfl,hle,u,rfl⟩
   by_cases hlt:i<ns.length
   . rw[List.getElem?_append_left (by simpa using hlt)] at hi
     obtain⟨p,hp,rfl⟩:=List.mem_map.mp (List.mem_of_getElem? hi)
     exact⟨_,rfl,_,rfl,.inl ⟨p.1,_,_,_,_,rfl,hn p hp,rfl,by omega,_,rfl⟩⟩
   . have e:i=ns.length:=by omega
     subst e
     rw[List.getElem?_append_right (by simp)] at hi
     simp at hi
     subst hi
     exact⟨_,rfl,_,rfl,.inr ⟨nv,k⟩⟩
 rintro σ H' ⟨rfl,hle,_⟩
 exfalso
 rw[List.length_append,List.length_map,List.length_cons] at hle
 omega
noncomputable def A2z (CN:Addr):Sp:=fun vs H Q _=>∃l ns z,vs=[.ref l,.str z]/\D4j CN H l ns/\ns.length<=1000/\∀H',B5 H H' ->Q (.bl (ns.any fun p=>decide (p.2.k.str=z))) H'
theorem G2b:B7 Q9 Q9 (A7 A3d):=scK
theorem G5t(ns:List (Addr×Nm))(z:Str):(ns.map fun p=>decide (p.2.k.str=z)).any id=ns.any fun p=>decide (p.2.k.str=z):=by rw[List.any_map];rfl
theorem dec_str{a b:Str}:decide (V.str a=V.str b)=decide (a=b):=by
 by_cases h:a=b
 . rw[decide_eq_true h,decide_eq_true (congrArg V.str h)]
 rw[decide_eq_false h,decide_eq_false fun q=>h (by injection q)]
theorem D1a{f CN:Addr}(D:Def K mg "some_of_kind" Q9 A3d f fd)(O:Own mg)(N:Num K mg CN):sI P w K mg base 1 f fd Q9 (A2z CN):=by
 refine A8.up (D.F.ok G2b (fun vs H Q E h=>?_) (fun cdv A outer s H vs Q E hr h=>?_))
 . obtain⟨l,ns,z,rfl,_⟩:=h
   rfl
 obtain⟨l,ns,z,rfl,⟨hl,hn⟩,hz,k⟩:=h
 refine⟨_,(A5 (B0 (G7 (D3q hr.hd) (by rfl) O.any_ boot_any (A0 (C8k (N:=["number"]) (F:=["kind"]) (js:=[1]) (G5.of1 ⟨rfl,by decide+kernel,by decide+kernel,by decide+kernel,by decide+kernel⟩ (by rfl) (by rfl) ⟨_,by rfl⟩ (by rfl) (by rfl)) (.inl hr.hd) rfl (A9c (pv 0)) rfl (fun C s₀ H₀ ex pn h=>U1 (i:=0) (by decide+kernel:(["number","kind"]:List Str).Nodup) rfl (Or.inl rfl)) (fun C s₀ H₀ ex pn h=>(G3 D4 (G1v (K:=K) rfl (pv 0) rfl) (pv 1) (B8 _)))) A3)))),?_⟩
 refine⟨_,rfl,l,rfl,⟨_,SqL.of hl⟩,C7j (J:=Itl K l) (n:=ns.length) (fun i y _=>∃p,ns[i]?=some p/\y= .bl (decide (p.2.k.str=z))) hz (fun _ _ _ _ _ _ h _ _=>h) (fun i H2 Qy hi sm hy=>⟨⟨_,V.ref ns[i].1,SqL.of (sm _ _ hl),by simp[hi]⟩,fun x H3 yl=>?_⟩) (fun H2 sm=>⟨_,SqL.of (sm _ _ hl),by simp⟩) (fun D H' ys sm nD eD hlen hR=>?_)⟩
 . obtain⟨rfl,yl⟩:=yl
   have ex:x=V.ref ns[i].1:=by
     have:=yl _ (SqL.of (sm _ _ hl))
     simp[hi] at this
     exact this.symm
   subst ex
   obtain⟨dx,e⟩:=(hn _ (List.getElem_mem hi)).same sm
   refine⟨_,rfl,ns[i].1,CN,dx,_,_,rfl,e,N.cl,N.n1,A3q _ _ _ _,_,rfl,rfl,hy _ _ (B5.refl _) ⟨ns[i],by simp[hi],?_⟩⟩
   rw[dec_str]
 have ey:ys=(ns.map fun p=>decide (p.2.k.str=z)).map V.bl:=by
   apply List.ext_getElem?
   intro i
   by_cases hi:i<ns.length
   . obtain⟨p,hp,hy⟩:=hR i ys[i] (by simp[hlen,hi])
     rw[List.getElem?_eq_getElem (by omega),hy]
     simp[hp]
   . rw[List.getElem?_eq_none (by omega),List.getElem?_eq_none (by simp;omega)]
 subst ey
 refine⟨D,_,rfl,SqL.of eD,?_⟩
 rw[G5t]
 exact k H' sm
noncomputable def Nm.wh (x:Nm) (q:Int):Int:=if x.s=1 then -(x.f*A2 (x.p-q)) else x.f*A2 (x.p-q)
noncomputable def B6j (CN:Addr):Sp:=fun vs H Q _=>∃n x q,vs=[.ref n,.int q]/\V6 CN H n x/\x.Bg/\0<=x.p-q/\x.p-q<=1000/\Q (.int (x.wh q)) H
theorem scWholeAt:B7 Q49 Q13 (A7 A1e):=scK
theorem Nm.Ok.bits{x:Nm}(h:x.Ok):Builtin.Int.intBits x.f<=2^20:=by
 obtain⟨n,hn⟩:=Int.eq_ofNat_of_zero_le h.f0
 rw[hn]
 refine A4f (k:=200) ?_ (by decide)
 have:=h.f1
 have e:((10^60:Nat):Int)=10^60:=by decide+kernel
 have:n<10^60:=by omega
 exact Nat.lt_trans this (by decide+kernel)
theorem A9s{d:Int}(h:d<=4000):Builtin.Int.intBits (A2 d)<=2^20:=B4c (b:=10) (s:=4) (n:=4000) (by decide) (by omega) (by decide)
theorem C1r{f f1 CN:Addr}(D:Def K mg "whole_at" Q13 A1e f fd)(dA:Def K mg "ten_to" ["count"] A1k f1 fd1)(dB:sI P w K mg base 2 f1 fd1 ["count"] A1t)(N:Num K mg CN):sI P w K mg base 3 f fd Q13 (B6j CN):=by
 refine A8.up (D.F.ok scWholeAt (fun vs H Q E h=>?_) (fun cdv A outer s H vs Q E hr h=>?_))
 . obtain⟨n,x,q,rfl,_⟩:=h
   rfl
 obtain⟨n,x,q,rfl,⟨dx,e⟩,ok,h0,h1,k⟩:=h
 have hx:U0 (A1j CX0 P w K mg base Q49 "whole_at" (A7 A1e) f cdv A outer s H E).nox EKF:=Y0
 refine⟨_,(A4 (D0 (i:=2) scWholeAt.nd rfl (Or.inl rfl) (A9 G0 (D3 (pv 0) rfl) (C4 dA dB hr hx (A0 (A9 U2 (D3 (pv 0) rfl) (pv 1)) A3)))) (A5 (B0 (V4 (B9 D4 (D3 (pv 0) rfl) A1 (B8 _)) (A4z A2c (pv 2)) (pv 2))))),?_⟩
 have mu:IntMulOk x.f (A2 (x.p-q)):=IntMulOk.of_bits ok.bits (A9s (by omega))
 refine⟨_,rfl,n,CN,dx,_,_,rfl,e,N.cl,N.n3,A4n _ _ _ _,_,rfl,n,CN,dx,_,_,rfl,e,N.cl,N.n4,A2f _ _ _ _,_,rfl,_,_,rfl,rfl,(x.p-q).toNat,(by rw[Int.toNat_of_nonneg h0];rfl),by omega,_,_,rfl,rfl,mu,?_⟩
 refine⟨_,rfl,n,CN,dx,_,_,rfl,e,N.cl,N.n2,A4c _ _ _ _,rfl,_,rfl,?_⟩
 unfold Nm.wh at k
 refine G8 (fun h=>?_) (fun h=>?_)
 . rw[if_pos (by injection h)] at k
   exact⟨_,rfl,_,rfl,k⟩
 rw[if_neg fun q=>h (congrArg V.int q)] at k
 exact⟨_,rfl,k⟩
noncomputable def Z3 (left low:Int):Int:=(if decide (0<left)=true then 1 else 0)+(if decide (low<=2*left)=true then 1 else 0)+(if decide (low<2*left)=true then 1 else 0)
theorem G1b(s:Int):(if(0:Int)>s then 0 else s)=((s.toNat:Nat):Int):=by
 by_cases h:(0:Int)>s
 . rw[if_pos h];omega
 rw[if_neg h];omega
noncomputable def A0m (t b s:Int):Prop:=b*A2 (-s)<=t*A2 s/\t*A2 s<10*(b*A2 (-s))
theorem Z6{s r:Int}(h:s<=r):A2 r*A2 (-s)=A2 s*A2 (-r)*A2 (r-s):=by
 have ad:∀{a b c:Int},0<=a ->0<=b ->c=a+b ->A2 c=A2 a*A2 b:=fun ha hb e=>by
   subst e
   unfold A2
   rw[Int.toNat_add ha hb,Nat.pow_add]
   exact Int.natCast_mul _ _
 have z:∀{a:Int},a<=0 ->A2 a=1:=fun h=>by
   unfold A2
   rw[Int.toNat_of_nonpos h]
   rfl
 rcases Int.le_total 0 s with hs|hs
 . rw[z (a:= -s) (by omega),z (a:= -r) (by omega),Int.mul_one,Int.mul_one]
   exact ad hs (by omega) (by omega)
 rcases Int.le_total 0 r with hr|hr
 . rw[z hs,z (a:= -r) (by omega),Int.one_mul,Int.one_mul]
   exact(ad hr (by omega) (by omega)).symm
 rw[z hr,z hs,Int.one_mul,Int.one_mul]
 exact ad (by omega) (by omega) (by omega)
theorem C4d{d:Int}(h:1<=d):10<=A2 d:=by
 unfold A2
 have:10^1<=10^d.toNat:=Nat.pow_le_pow_right (by decide) (by omega)
 omega
theorem V3{a b:Int}(h:a<=b):A2 a<=A2 b:=by
 unfold A2
 exact Int.ofNat_le.mpr (Nat.pow_le_pow_right (by decide) (by omega))
theorem C4p{t b s r:Int}(hb:0<b)(h1:A0m t b s)(h2:A0m t b r):r<=s:=by
 apply Classical.byContradiction
 intro h
 have hs:s<=r:=by omega
 have c:=Z6 hs
 have g:=C4d (d:=r-s) (by omega)
 have p1:=C8 (-s)
 have p2:=C8 (-r)
 have l1:0<b*A2 (-s):=Int.mul_pos hb p1
 have l2:0<b*A2 (-r):=Int.mul_pos hb p2
 have e:t*A2 r*(b*A2 (-s))=t*A2 s*(b*A2 (-r))*A2 (r-s):=by
   calc t*A2 r*(b*A2 (-s))=t*b*(A2 r*A2 (-s)):=by ac_rfl
     _=t*b*(A2 s*A2 (-r)*A2 (r-s)):=by rw[c]
     _=t*A2 s*(b*A2 (-r))*A2 (r-s):=by ac_rfl
 have a1:t*A2 r*(b*A2 (-s))<10*(b*A2 (-r))*(b*A2 (-s)):=Int.mul_lt_mul_of_pos_right h2.2 l1
 have hp:0<t*A2 s:=Int.lt_of_lt_of_le l1 h1.1
 have a2:t*A2 s*(b*A2 (-r))*10<=t*A2 s*(b*A2 (-r))*A2 (r-s):=Int.mul_le_mul_of_nonneg_left g (Int.le_of_lt (Int.mul_pos hp l2))
 have a3:b*A2 (-s)*(b*A2 (-r))<=t*A2 s*(b*A2 (-r)):=Int.mul_le_mul_of_nonneg_right h1.1 (Int.le_of_lt l2)
 have e2:10*(b*A2 (-r))*(b*A2 (-s))=b*A2 (-s)*(b*A2 (-r))*10:=by ac_rfl
 have a4:b*A2 (-s)*(b*A2 (-r))*10<=t*A2 s*(b*A2 (-r))*10:=Int.mul_le_mul_of_nonneg_right a3 (by decide)
 rw[e] at a1
 rw[e2] at a1
 exact absurd (Int.lt_of_lt_of_le a1 (Int.le_trans a4 a2)) (Int.lt_irrefl _)
theorem G2n{t b s r:Int}(hb:0<b)(h1:A0m t b s)(h2:A0m t b r):s=r:=Int.le_antisymm (C4p hb h2 h1) (C4p hb h1 h2)
noncomputable def Sz (t:Int):Prop:=1<=t/\t<A2 1000
theorem C4z(n:Nat):10^n<=2^(4*n):=by
 rw[Nat.pow_mul]
 exact Nat.pow_le_pow_left (by decide) n
theorem C0d(n:Nat):10^(3*n)<=2^(10*n):=by
 rw[Nat.pow_mul,Nat.pow_mul]
 exact Nat.pow_le_pow_left (by decide) n
theorem Sz.nat{t:Int}(h:Sz t):∃n:Nat,t=(n:Int)/\1<=n/\n<10^1000:=by
 obtain⟨n,rfl⟩:=Int.eq_ofNat_of_zero_le (show 0<=t by have:=h.1;omega)
 exact⟨n,rfl,Int.ofNat_le.mp h.1,Int.ofNat_lt.mp h.2⟩
theorem B7v{t s:Int}(ht:Sz t)(h:s<=1500):∃n:Nat,t*A2 s=(n:Int)/\n<10^2502:=by
 obtain⟨n,rfl,_,hn⟩:=ht.nat
 refine⟨n*10^s.toNat,rfl,?_⟩
 have a:10^s.toNat<=10^1502:=Nat.pow_le_pow_right (by decide) (by omega)
 calc n*10^s.toNat<=n*10^1502:=Nat.mul_le_mul_left n a
   _<10^1000*10^1502:=Nat.mul_lt_mul_of_pos_right hn (Nat.pow_pos (by decide))
   _=10^2502:=by rw[<-Nat.pow_add]
theorem C0g{n:Nat}(h:n<10^2502):Builtin.Int.intBits (n:Int)<=2^20:=A4f (k:=4*2502) (Nat.lt_of_lt_of_le h (C4z 2502)) (by decide)
theorem B6y{t:Int}(h:Sz t):Builtin.Int.intBits t<=2^20:=by
 obtain⟨n,rfl,_,hn⟩:=h.nat
 exact A4f (k:=4*1000) (Nat.lt_of_lt_of_le hn (C4z 1000)) (by decide)
theorem A4g{t s:Int}(ht:Sz t)(h:s<=1500):IntMulOk t (A2 s):=IntMulOk.of_bits (B6y ht) (A9s (by omega))
theorem C1q{b s:Int}(hb:Sz b)(h:s<=1500):(b*A2 s).natAbs.log2<9000:=by
 obtain⟨n,e,hn⟩:=B7v hb h
 rw[e]
 have:n<2^8340:=Nat.lt_of_lt_of_le hn (C0d 834)
 exact Nat.lt_trans (A0r (i:=(n:Int)) (k:=8340) (by rw[Int.natAbs_natCast];exact this) (by decide)) (by decide)
noncomputable def whI (t b s:Int):Int:=t*A2 s/(b*A2 (-s))
noncomputable def ptI (t b s:Int):Int:=Z3 (t*A2 s-whI t b s*(b*A2 (-s))) (b*A2 (-s))
theorem C5q{t b s:Int}(hb:0<b):0<=t*A2 s-whI t b s*(b*A2 (-s))/\t*A2 s-whI t b s*(b*A2 (-s))<b*A2 (-s):=by
 have l:=Int.mul_pos hb (C8 (-s))
 have e:=Int.emod_add_mul_ediv (t*A2 s) (b*A2 (-s))
 have a:=Int.emod_nonneg (t*A2 s) (Int.ne_of_gt l)
 have c:=Int.emod_lt_of_pos (t*A2 s) l
 have e2:whI t b s*(b*A2 (-s))=b*A2 (-s)*(t*A2 s/(b*A2 (-s))):=Int.mul_comm _ _
 omega
theorem J0h{t b s:Int}(ht:Sz t)(hb:Sz b)(h1: -1500<=s)(h2:s<=1500):IntMulOk (whI t b s) (b*A2 (-s)):=by
 obtain⟨n,e,hn⟩:=B7v hb (s:= -s) (by omega)
 obtain⟨k,e',hk⟩:=B7v ht h2
 unfold whI
 rw[e,e']
 exact IntMulOk.of_bits (C0g (Nat.lt_of_le_of_lt (Nat.div_le_self k n) hk)) (C0g hn)
noncomputable abbrev A3z:Stmt:=(G6 (top 41) 0)
structure B8w(K:Frag)(mg:Str ->Option Value)(CR CE:Addr):Prop where
 g:mg "Ratio"=some (.ref CR)
 ge:mg "Exact"=some (.ref CE)
 cl:Cls K CR
 n_top:Y6 K CR "top"
 n_bottom:Y6 K CR "bottom"
 n_power:Y6 K CR "power"
 ca:findIn K (.ref CR) "__class__"=some (some (.builtin "object.__class__"))
 sn:specialIn K (.builtin "object.__class__") "__get__"=some (some (.builtin "getset_descriptor.__get__"))
 tk:takesIn K (.builtin "object.__class__")=some true
 ob:mroIn K CR (.type "object")=some true
 up:kitOne K (.ref CR) (.ref CE)=some true
noncomputable def B8f (t b n:V):List (Str×V):=putF "power" n (putF "bottom" b (putF "top" t []))
theorem B2p(t b n:V)(x:Str):(B8f t b n).lookup x=if x="power" then some n else if x="bottom" then some b else if x="top" then some t else none:=by
 unfold B8f
 rw[G2,G2,G2]
 rfl
theorem C5u(t b n:V):(B8f t b n).lookup ("top":Str)=some t:=by rw[B2p,if_neg (by decide+kernel),if_neg (by decide+kernel),if_pos rfl]
theorem B2b(t b n:V):(B8f t b n).lookup ("bottom":Str)=some b:=by rw[B2p,if_neg (by decide+kernel),if_pos rfl]
theorem B5p(t b n:V):(B8f t b n).lookup ("power":Str)=some n:=by rw[B2p,if_pos rfl]
theorem B7e(t b n:V):(B8f t b n).lookup ("first":Str)=none:=by rw[B2p,if_neg (by decide+kernel),if_neg (by decide+kernel),if_neg (by decide+kernel)]
theorem B6a(t b n:V):(B8f t b n).lookup ("at":Str)=none:=by rw[B2p,if_neg (by decide+kernel),if_neg (by decide+kernel),if_neg (by decide+kernel)]
noncomputable def A6w (CR:Addr) (H:Hp) (x:Addr) (t b n:Int):Prop:=∃dx,H x=some (.ins CR dx (B8f (.int t) (.int b) (.int n)))
theorem A6w.same{CR:Addr}{H H':Hp}{x:Addr}{t b n:Int}(h:A6w CR H x t b n)(s:B5 H H'):A6w CR H' x t b n:=by
 obtain⟨dx,e⟩:=h
 exact⟨dx,s _ _ e⟩
noncomputable def B6x (CR:Addr):Sp:=fun vs H Q _=>∃(p dx:Addr) (t b n:V),vs=[.ref p,t,b,n]/\H p=some (.ins CR dx [])/\∀H',H' p=some (.ins CR dx (B8f t b n)) ->Exc p H H' ->Q .non H'
theorem G2u:B7 Q21 Q21 (A7 A3z):=scK
theorem D0m{f CR CE:Addr}{dV:Value}(F:C9m K "__init__" "Ratio.__init__" A3z dV f fd)(R:B8w K mg CR CE):sI P w K mg base 1 f fd Q21 (B6x CR):=by
 refine F.okE G2u (fun vs H Q E h=>?_) (fun X cdv A outer s H vs Q E hX hr hx h=>?_)
 . obtain⟨p,dx,a,b,c,rfl,_⟩:=h
   rfl
 subst hX
 obtain⟨p,dx,a,b,c,rfl,hp,k⟩:=h
 refine⟨_,(A4 (A0c (pv 0) (pv 1) rfl) (A4 (A0c (pv 0) (pv 2) rfl) (A5 (A0c (pv 0) (pv 3) rfl)))),?_⟩
 have l:∀(fs:List (Str×V)) (f:Str) (v:V) (n:Nat),fs.length<=n ->(putF f v fs).length<=n+1:=fun fs f v n h=>Nat.le_trans (A0u f v fs) (Nat.succ_le_succ h)
 refine⟨_,rfl,_,rfl,p,CR,dx,[],rfl,hp,R.cl,R.n_top,(by show 0<1000;decide),?_⟩
 refine⟨_,rfl,_,rfl,p,CR,dx,_,rfl,A6,R.cl,R.n_bottom,Nat.lt_of_le_of_lt (l _ _ _ 0 (Nat.le_refl _)) (by decide),?_⟩
 refine⟨_,rfl,_,rfl,p,CR,dx,_,rfl,A6,R.cl,R.n_power,Nat.lt_of_le_of_lt (l _ _ _ 1 (l _ _ _ 0 (Nat.le_refl _))) (by decide),?_⟩
 refine k _ A6 fun b o e hb=>?_
 rw[D5 hb,D5 hb,D5 hb]
 exact e
noncomputable def A3v (CR:Addr):Sp:=fun vs H Q _=>∃x t b n,vs=[.ref x]/\A6w CR H x t b n/\Sz t/\Sz b/\∀f H',B5 H H' ->A0m t b (n-f) ->Q (.int f) H'
noncomputable def B3f (CR:Addr):Sp:=fun vs H Q _=>∃x t b n p,vs=[.ref x,.int p]/\A6w CR H x t b n/\Sz t/\Sz b/\ -1500<=n-p/\n-p<=1500/\
 ∀q H',B5 H H' ->H q=none ->H' q=some (.tup [.int (whI t b (n-p)),.int (ptI t b (n-p))]) ->Q (.ref q) H'
structure C1c(P:Program)(w:World)(K:Frag)(mg:Str ->Option Value)(base:Heap)(CR fI:Addr)(fdI:FuncData)(d0:Value)(gP:List Value ->List Value ->List Value)(vP:List V ->List V ->List V):Prop where
 m:Mk K CR fI
 g:sI P w K mg base 1 fI fdI Q21 (B6x CR)
 b3:Binds K fdI Q21 []
 b2:Binds K fdI Q21 [d0]
 r0:U7 (.int 0) d0
 kP:D4k K fdI Q21 ["power"] gP vP
 eP:∀x a b c,vP [x,a,b] [c]=[x,a,b,c]
structure J3v(P:Program)(w:World)(K:Frag)(mg:Str ->Option Value)(base:Heap)(CR f1 f2:Addr)(fd1 fd2:FuncData):Prop where
 m1:A9f K CR "first" f1
 g1:sI P w K mg base 4 f1 fd1 ["self"] (A3v CR)
 b1:Binds K fd1 ["self"] []
 m2:A9f K CR "at" f2
 g2:sI P w K mg base 3 f2 fd2 Q14 (B3f CR)
 b2:Binds K fd2 Q14 []
theorem B9d{CR x dx:Addr}{H:Hp}{Q:VK}{E:XK}{t b n:Int}(n1:H x=none)(n2:H dx=none)(ne:dx≠x)(k:∀H',B5 H H' ->A6w CR H' x t b n ->Q .non H'):
   B6x CR [.ref x,.int t,.int b,.int n] (upd (upd H dx (.own x)) x (.ins CR dx [])) Q E:=
 ⟨x,dx,_,_,_,rfl,A6,fun H' e s=>k H' (fun c o z=>s c o (by rw[D5 (C9 z n1),D5 (C9 z n2)];exact z) (C9 z n1)) ⟨dx,e⟩⟩
noncomputable abbrev A7w:Stmt:=(top 43)
noncomputable def B3j:Sp:=fun vs H Q _=>∃l m:Int,vs=[.int (2*l),.int m]/\0<=l/\0<m/\Q (.int (Z3 l m)) H
theorem D2z:B7 Q20 Q20 (A7 A7w):=scK
theorem G3k{m:Int}(hm:0<m):Z3 0 m=0:=by
 unfold Z3
 rw[decide_eq_false (by omega:¬(0:Int)<0),decide_eq_false (by omega:¬m<=2*0),decide_eq_false (by omega:¬m<2*0)]
 rfl
theorem G4d{l m:Int}(hl:0<l)(h:2*l<m):Z3 l m=1:=by
 unfold Z3
 rw[decide_eq_true hl,decide_eq_false (by omega:¬m<=2*l),decide_eq_false (by omega:¬m<2*l)]
 rfl
theorem G1t{l m:Int}(hl:0<l)(h:2*l=m):Z3 l m=2:=by
 unfold Z3
 rw[decide_eq_true hl,decide_eq_true (by omega:m<=2*l),decide_eq_false (by omega:¬m<2*l)]
 rfl
theorem G0y{l m:Int}(hl:0<l)(h:m<2*l):Z3 l m=3:=by
 unfold Z3
 rw[decide_eq_true hl,decide_eq_true (by omega:m<=2*l),decide_eq_true h]
 rfl
theorem C7t(D:Def K mg "part_of" Q20 A7w f fd):sI P w K mg base 1 f fd Q20 B3j:=by
 refine A8.up (D.F.ok D2z (fun vs H Q E h=>?_) (fun cdv A outer s H vs Q E hr h=>?_))
 . obtain⟨l,m,rfl,_⟩:=h
   rfl
 obtain⟨l,m,rfl,hl,hm,k⟩:=h
 refine⟨_,(A4 (D9 (B9 D4 (pv 0) A1 (B8 _)) (A5 (B0 A1)) C6) (A4 (D9 (B9 A6u (pv 0) (pv 1) (B8 _)) (A5 (B0 A1)) C6) (A5 (B0 (V4 (B9 D4 (pv 0) (pv 1) (B8 _)) A1 A1))))),?_⟩
 refine⟨_,rfl,rfl,_,rfl,G8 (fun h0=>?_) (fun h0=>?_)⟩
 . have e:l=0:=by
     have:2*l=0:=by injection h0
     omega
   subst e
   rw[G3k hm] at k
   exact k
 have hl':0<l:=by
   apply Classical.byContradiction
   intro z
   exact h0 (by rw[show l=0 by omega];rfl)
 refine⟨_,rfl,_,rfl,_,_,rfl,rfl,_,rfl,G8 (fun h1=>?_) (fun h1=>?_)⟩
 . rw[G4d hl' h1] at k
   exact k
 refine⟨_,rfl,_,rfl,rfl,_,rfl,G8 (fun h2=>?_) (fun h2=>?_)⟩
 . rw[G1t hl' (by injection h2)] at k
   exact k
 rw[G0y hl' (by
   have:2*l≠m:=fun z=>h2 (by rw[z])
   omega)] at k
 exact k
noncomputable abbrev A7m:Stmt:=(top 44)
theorem C2b(k:Nat):10^(k*301029995/10^9)<=2^k:=by
 have hm:k*301029995/10^9*28738<=k*8651:=by
   have:k*301029995/10^9*10^9<=k*301029995:=Nat.div_mul_le_self _ _
   omega
 generalize k*301029995/10^9=m at hm
 have c:(10:Nat)^8651<=2^28738:=by decide+kernel
 have a:(10^m)^8651<=(2^k)^8651:=by
   calc (10^m)^8651=(10^8651)^m:=by rw[<-Nat.pow_mul, <-Nat.pow_mul,Nat.mul_comm]
     _<=(2^28738)^m:=Nat.pow_le_pow_left c m
     _=2^(m*28738):=by rw[<-Nat.pow_mul,Nat.mul_comm]
     _<=2^(k*8651):=Nat.pow_le_pow_right (by decide) hm
     _=(2^k)^8651:=by rw[<-Nat.pow_mul]
 exact(Nat.pow_le_pow_iff_left (by decide)).mp a
noncomputable def B1s:Sp:=fun vs H Q _=>∃n:Nat,vs=[.int (n:Int)]/\1<=n/\n<10^3000/\∀L:Nat,10^L<=n ->n<10^(L+1) ->Q (.int (L:Int)) H
theorem scWLead:B7 ["whole","lead","beyond"] ["whole"] (A7 A7m):=scK
theorem D1f(D:Def K mg "whole_lead" ["whole"] A7m f fd)(dA:Def K mg "ten_to" ["count"] A1k f1 fd1)(dB:sI P w K mg base 2 f1 fd1 ["count"] A1t):sI P w K mg base 3 f fd ["whole"] B1s:=by
 refine A8.up (D.F.ok scWLead (fun vs H Q E h=>?_) (fun cdv A outer s H vs Q E hr h=>?_))
 . obtain⟨n,rfl,_⟩:=h
   rfl
 obtain⟨n,rfl,n1,n2,k⟩:=h
 have hx:U0 (A1j CX0 P w K mg base ["whole","lead","beyond"] "whole_lead" (A7 A7m) f cdv A outer s H E).nox EKF:=Y0
 refine⟨_,(A4 (B3 (D0 (i:=1) scWLead.nd rfl (Or.inl rfl) (A9 D6 (A9 G0 (A9 U2 (B3k PySem.F.plainAttrs_int PySem.F.slot_int_bit_length PySem.F.type_int_bit_length A6s (pv 0)) A1) A1) (A9 D0e A1 A1)))) (A4 (B3 (D0 (i:=2) scWLead.nd rfl (Or.inl rfl) (C4 dA dB hr hx (A0 (A9 G9 (pv 1) A1) A3)))) (A4 (B3 (A1y PassesOwn.never (B9 G4r (pv 2) (pv 0) (B8 _)) (A4 (G5a (i:=1) scWLead.nd rfl (Or.inl rfl) A1 G8d) (A5 (D0 (i:=2) scWLead.nd rfl (Or.inl rfl) (A9 G0 (pv 2) A1)))))) (A5 (B0 (pv 1)))))),?_⟩
 have mC:∀z n:Int, -(2^64)<n ->n<2^64 ->IntMulOk z n:=fun z n a b=>A2w.ok (.inr ⟨a,b⟩)
 have pw:G0a 10 9:=⟨by decide,by decide,by decide⟩
 have l3:∀{L:Nat},10^L<=n ->L<3000:=fun hL=>(Nat.pow_lt_pow_iff_right (by decide:1<10)).mp (Nat.lt_of_le_of_lt hL n2)
 refine⟨fun σ H'=>H'=H/\∃L:Nat,10^L<=n/\σ=[si (n:Int),si (L:Int),none],?_,?_⟩
 . refine⟨_,rfl,rfl,_,rfl,rfl,_,_,rfl,rfl,_,_,rfl,rfl,mC _ _ (by decide) (by decide),_,_,rfl,rfl,pw,_,_,rfl,rfl,⟨by decide,by decide+kernel⟩,rfl,n.log2*301029995/10^9,?_,?_⟩
   . exact Nat.le_trans (C2b _) (Nat.log2_self_le (by omega))
   . have e:(Builtin.Int.intBits (n:Int):Nat)=n.log2+1:=by
       unfold Builtin.Int.intBits
       rw[if_neg (by simp;omega)]
       rfl
     show [si (n:Int),si ((((Builtin.Int.intBits (n:Int):Nat):Int)-1)*301029995/(10^Int.toNat 9:Int)),none]=_
     rw[e,show((n.log2+1:Nat):Int)-1=(n.log2:Int) by omega]
     rfl
 refine L2.hideG fun Z_ z_=>?_
 rintro σ H' ⟨rfl,L0,hL0,rfl⟩
 subst z_
 refine⟨fun σ H2=>H2=H'/\∃L:Nat,10^L<=n/\σ=[si (n:Int),si (L:Int),si ((10^(L+1):Nat):Int)],?_,?_⟩
 . have:=l3 hL0
   exact⟨_,rfl,_,_,rfl,rfl,L0+1,rfl,by omega,rfl,L0,hL0,rfl⟩
 refine L2.hideG fun Z_ z_=>?_
 rintro σ H2 ⟨rfl,L1,hL1,rfl⟩
 subst z_
 refine⟨fun σ H3=>H3=H2/\∃L:Nat,10^L<=n/\n<10^(L+1)/\σ=[si (n:Int),si (L:Int),si ((10^(L+1):Nat):Int)],?_,?_⟩
 . refine A1b (fun σ H3=>H3=H2/\∃L:Nat,10^L<=n/\σ=[si (n:Int),si (L:Int),si ((10^(L+1):Nat):Int)]) (fun σ _=>match σ with| [_,some (.int c),_]=>n-c.toNat|_=>0) ?_ ?_ ?_
   . exact⟨rfl,L1,hL1,rfl⟩
   . rintro σ H3 ⟨rfl,L,hL,rfl⟩
     refine⟨_,rfl,_,rfl,_,_,rfl,rfl,_,rfl,G8 (fun hle=>?_) (fun hgt=>?_)⟩
     . have hle:10^(L+1)<=n:=Int.ofNat_le.mp hle
       refine⟨_,rfl,_,_,rfl,rfl,_,rfl,_,_,rfl,rfl,mC _ _ (by decide) (by decide),⟨rfl,L+1,hle,?_⟩,?_⟩
       . show [si (n:Int),si ((L:Int)+1),si (((10^(L+1):Nat):Int)*10)]=_
         rw[show((10^(L+1):Nat):Int)*10=((10^(L+1+1):Nat):Int) by rw[Nat.pow_succ 10 (L+1)];rfl]
         rfl
       have lt:L+1<10^(L+1):=Nat.lt_pow_self (by decide)
       show n-((L:Int)+1).toNat<n-(L:Int).toNat
       omega
     . have hgt:¬10^(L+1)<=n:=fun z=>hgt (Int.ofNat_le.mpr z)
       exact⟨rfl,L,hL,by omega,rfl⟩
   . rintro σ H2 Q1 Q2 hQ ⟨v,e,v2,e4,i2,j2,e5,e6,b,e7,q⟩
     exact⟨v,e,v2,e4,i2,j2,e5,e6,b,e7,hQ _ _ q⟩
 refine L2.hideG fun Z_ z_=>?_
 rintro σ H3 ⟨rfl,L,h1,h2,rfl⟩
 subst z_
 exact⟨_,rfl,k L h1 h2⟩
noncomputable abbrev C5p:Stmt:=(G6 (top 41) 2)
noncomputable abbrev A8d:Stmt:=(G6 (top 41) 1)
theorem scRAt:B7 Q48 Q14 (A7 C5p):=scK
theorem G5d{f f1 f2 CR CE:Addr}(F:Fun K "at" "Ratio.at" C5p f fd)(dA:Def K mg "ten_to" ["count"] A1k f1 fd1)(dB:sI P w K mg base 2 f1 fd1 ["count"] A1t)
   (dC:Def K mg "part_of" Q20 A7w f2 fd2) (dD:sI P w K mg base 1 f2 fd2 Q20 B3j) (R:B8w K mg CR CE) (O:Own mg):sI P w K mg base 3 f fd Q14 (B3f CR):=by
 refine A8.up (F.ok scRAt (fun vs H Q E h=>?_) (fun cdv A outer s H vs Q E hr h=>?_))
 . obtain⟨x,t,b,n,p,rfl,_⟩:=h
   rfl
 obtain⟨x,t,b,n,p,rfl,⟨dx,e⟩,ht,hb,h1,h2,k⟩:=h
 have hx:U0 (A1j CX0 P w K mg base Q48 "Ratio.at" (A7 C5p) f cdv A outer s H E).nox EKF:=Y0
 refine⟨_,(A4 (D0 (i:=2) scRAt.nd rfl (Or.inl rfl) (A9 U2 (D3 (pv 0) rfl) (pv 1))) (A4 (D0 (i:=3) scRAt.nd rfl (Or.inl rfl) (A9 G0 (D3 (pv 0) rfl) (C4 dA dB hr hx (A0 (G7 (A0b rfl) (by rfl) O.max_ boot_max (A0 (pv 2) (A0 A1 A3))) A3)))) (A4 (D0 (i:=4) scRAt.nd rfl (Or.inl rfl) (A9 G0 (D3 (pv 0) rfl) (C4 dA dB hr hx (A0 (G7 (A0b rfl) (by rfl) O.max_ boot_max (A0 (A4z A2c (pv 2)) (A0 A1 A3))) A3)))) (A4 (D0 (i:=5) scRAt.nd rfl (Or.inl rfl) (A9 D6 (pv 3) (pv 4))) (A5 (B0 (U4 (A0 (pv 5) (A0 (C4 dC dD hr hx (A0 (A9 G0 A1 (A9 U2 (pv 3) (A9 G0 (pv 5) (pv 4)))) (A0 (pv 4) A3))) A3))))))))),?_⟩
 have z2:2<=sizeLine:=C7 (by decide)
 have mC':∀z n:Int, -(2^64)<n ->n<2^64 ->IntMulOk n z:=fun z n a b=>A2w.ok (.inl ⟨a,b⟩)
 have hb0:0<b:=by have:=hb.1;omega
 refine⟨_,rfl,x,CR,dx,_,_,rfl,e,R.cl,R.n_power,B5p _ _ _,_,rfl,_,_,rfl,rfl,?_⟩
 refine⟨_,rfl,x,CR,dx,_,_,rfl,e,R.cl,R.n_top,C5u _ _ _,_,rfl,_,_,rfl,(n-p).toNat,congrArg (fun z=>[V.int z]) (G1b (n-p)),by omega,_,_,rfl,rfl,A4g ht h2,?_⟩
 refine⟨_,rfl,x,CR,dx,_,_,rfl,e,R.cl,R.n_bottom,B2b _ _ _,_,rfl,_,rfl,_,_,rfl,(-(n-p)).toNat,congrArg (fun z=>[V.int z]) (G1b (-(n-p))),by omega,_,_,rfl,rfl,A4g hb (by omega),?_⟩
 have lp:0<b*A2 (-(n-p)):=Int.mul_pos hb0 (C8 _)
 have ll:(b*A2 (-(n-p))).natAbs.log2<9000:=C1q hb (by omega)
 refine⟨_,rfl,_,rfl,_,_,rfl,rfl,⟨lp,ll⟩,?_⟩
 have lf:=C5q (t:=t) (s:=n-p) hb0
 refine⟨_,rfl,_,rfl,_,rfl,_,rfl,_,_,rfl,rfl,J0h ht hb h1 h2,_,_,rfl,rfl,_,_,rfl,rfl,mC' _ _ (by decide) (by decide),_,rfl,_,_,rfl,lf.1,lp,z2,fun q nq=>k q _ (B5.upd nq) nq A6⟩
theorem G6y{t b L M u v:Nat}(h:L+u=M+v)(t2:t<10^(L+1))(b1:10^M<=b):t*10^u<10*(b*10^v):=by
 have p:0<10^u:=Nat.pow_pos (by decide)
 calc t*10^u<10^(L+1)*10^u:=Nat.mul_lt_mul_of_pos_right t2 p
   _=10*(10^M*10^v):=by rw[<-Nat.pow_add, <-Nat.pow_add, <-h,show L+1+u=(L+u)+1 by omega,Nat.pow_succ,Nat.mul_comm]
   _<=10*(b*10^v):=Nat.mul_le_mul_left 10 (Nat.mul_le_mul_right _ b1)
theorem G5q{t b L M u v:Nat}(h:L+u=M+1+v)(t1:10^L<=t)(b2:b<10^(M+1)):b*10^v<=t*10^u:=by
 calc b*10^v<=10^(M+1)*10^v:=Nat.mul_le_mul_right _ (Nat.le_of_lt b2)
   _=10^L*10^u:=by rw[<-Nat.pow_add, <-Nat.pow_add,h]
   _<=t*10^u:=Nat.mul_le_mul_right _ t1
theorem B5h{t b L M:Nat}(t1:10^L<=t)(t2:t<10^(L+1))(b1:10^M<=b)(b2:b<10^(M+1))(h:(b:Int)*A2 (-((M:Int)-L))<=(t:Int)*A2 ((M:Int)-L)):A0m t b ((M:Int)-L):=by
 refine⟨h,?_⟩
 unfold A2
 have:=G6y (t:=t) (b:=b) (L:=L) (M:=M) (u:=((M:Int)-L).toNat) (v:=(-((M:Int)-L)).toNat) (by omega) t2 b1
 exact Int.ofNat_lt.mpr this
theorem B3w{t b L M:Nat}(t1:10^L<=t)(t2:t<10^(L+1))(b1:10^M<=b)(b2:b<10^(M+1))(h:(t:Int)*A2 ((M:Int)-L)<(b:Int)*A2 (-((M:Int)-L))):A0m t b ((M:Int)-L+1):=by
 refine⟨?_,?_⟩
 . unfold A2
   have:=G5q (t:=t) (b:=b) (L:=L) (M:=M) (u:=((M:Int)-L+1).toNat) (v:=(-((M:Int)-L+1)).toNat) (by omega) t1 b2
   exact Int.ofNat_le.mpr this
 have hb:0<(b:Int):=by
   have:0<10^M:=Nat.pow_pos (by decide)
   omega
 generalize (M:Int)-L=s at h
 have c:=Z6 (s:=s) (r:=s+1) (by omega)
 have e1:A2 (s+1-s)=10:=by rw[show s+1-s=1 by omega];rfl
 rw[e1] at c
 have l:=Int.mul_pos hb (C8 (-s))
 have l':=Int.mul_pos hb (C8 (-(s+1)))
 have e:(t:Int)*A2 (s+1)*((b:Int)*A2 (-s))=(t:Int)*A2 s*((b:Int)*A2 (-(s+1)))*10:=by
   calc (t:Int)*A2 (s+1)*((b:Int)*A2 (-s))=t*b*(A2 (s+1)*A2 (-s)):=by ac_rfl
     _=t*b*(A2 s*A2 (-(s+1))*10):=by rw[c]
     _=(t:Int)*A2 s*((b:Int)*A2 (-(s+1)))*10:=by ac_rfl
 have a:(t:Int)*A2 s*((b:Int)*A2 (-(s+1)))<(b:Int)*A2 (-s)*((b:Int)*A2 (-(s+1))):=Int.mul_lt_mul_of_pos_right h l'
 have a2:(t:Int)*A2 (s+1)*((b:Int)*A2 (-s))<10*((b:Int)*A2 (-(s+1)))*((b:Int)*A2 (-s)):=by
   rw[e,show 10*((b:Int)*A2 (-(s+1)))*((b:Int)*A2 (-s))=(b:Int)*A2 (-s)*((b:Int)*A2 (-(s+1)))*10 by ac_rfl]
   exact Int.mul_lt_mul_of_pos_right a (by decide)
 exact Int.lt_of_mul_lt_mul_right a2 (Int.le_of_lt l)
theorem scRFirst:B7 ["self","guess"] ["self"] (A7 A8d):=scK
theorem C8a{f f1 f2 CR CE:Addr}(F:Fun K "first" "Ratio.first" A8d f fd)(dA:Def K mg "whole_lead" ["whole"] A7m f1 fd1)(dB:sI P w K mg base 3 f1 fd1 ["whole"] B1s)
   (MA:A9f K CR "at" f2) (GA:sI P w K mg base 3 f2 fd2 Q14 (B3f CR)) (BA:Binds K fd2 Q14 []) (R:B8w K mg CR CE):sI P w K mg base 4 f fd ["self"] (A3v CR):=by
 refine A8.up (F.ok scRFirst (fun vs H Q E h=>?_) (fun cdv A outer s H vs Q E hr h=>?_))
 . obtain⟨x,t,b,n,rfl,_⟩:=h
   rfl
 obtain⟨x,t,b,n,rfl,ra,ht,hb,k⟩:=h
 have hx:U0 (A1j CX0 P w K mg base ["self","guess"] "Ratio.first" (A7 A8d) f cdv A outer s H E).nox EKF:=Y0
 refine⟨_,(A4 (D0 (i:=1) scRFirst.nd rfl (Or.inl rfl) (A9 G9 (A9 U2 (C4 dA dB hr hx (A0 (D3 (pv 0) rfl) A3)) (C4 dA dB hr hx (A0 (D3 (pv 0) rfl) A3))) (D3 (pv 0) rfl))) (A5 (B0 (V4 (B9 A5a (D7 D8 (A8c (pv 0) R.cl MA GA hr BA .nil hx (A0 (pv 1) A3)) A1 (fun _ _=>rfl)) A1 (B8 _)) (pv 1) (A9 U2 (pv 1) A1))))),?_⟩
 obtain⟨tn,rfl,ta,tb⟩:=ht.nat
 obtain⟨bn,rfl,ba,bb⟩:=hb.nat
 obtain⟨dx,e⟩:=id ra
 have p30:(10:Nat)^1000<10^3000:=Nat.pow_lt_pow_right (by decide) (by decide)
 have p30':∀{L m:Nat},10^L<=m ->m<10^1000 ->L<1000:=fun h1 h2=>(Nat.pow_lt_pow_iff_right (by decide:1<10)).mp (Nat.lt_of_le_of_lt h1 h2)
 refine⟨_,rfl,x,CR,dx,_,_,rfl,e,R.cl,R.n_top,C5u _ _ _,tn,rfl,ta,Nat.lt_trans tb p30,fun L L1 L2=>?_⟩
 refine⟨_,rfl,x,CR,dx,_,_,rfl,e,R.cl,R.n_bottom,B2b _ _ _,bn,rfl,ba,Nat.lt_trans bb p30,fun M' M1 M2=>?_⟩
 have l30:=p30' L1 tb
 have m30:=p30' M1 bb
 refine⟨_,_,rfl,rfl,_,rfl,x,CR,dx,_,_,rfl,e,R.cl,R.n_power,B5p _ _ _,_,_,rfl,rfl,?_⟩
 have es:n-((L:Int)-M'+n)=(M':Int)-L:=by omega
 refine⟨_,rfl,x,dx,_,rfl,e,B6a _ _ _,_,rfl,x,tn,bn,n,_,rfl,ra,ht,hb,by omega,by omega,fun q H1 s1 nq hq=>?_⟩
 rw[es] at hq
 refine⟨q,_,0,_,rfl,rfl,SqT.of hq,C0 (j:=0) rfl,_,_,rfl,rfl,_,rfl,?_⟩
 have lp:0<(bn:Int)*A2 (-((M':Int)-L)):=Int.mul_pos (by omega) (C8 _)
 refine G8 (fun hg=>?_) (fun hg=>?_)
 . have hle:(bn:Int)*A2 (-((M':Int)-L))<=(tn:Int)*A2 ((M':Int)-L):=by
     have:=(Int.le_ediv_iff_mul_le lp).mp (show(1:Int)<=(tn:Int)*A2 ((M':Int)-L)/((bn:Int)*A2 (-((M':Int)-L))) from hg)
     omega
   refine⟨_,rfl,k _ H1 s1 ?_⟩
   rw[es]
   exact B5h L1 L2 M1 M2 hle
 have hlt:(tn:Int)*A2 ((M':Int)-L)<(bn:Int)*A2 (-((M':Int)-L)):=by
   apply Classical.byContradiction
   intro z
   exact hg ((Int.le_ediv_iff_mul_le lp).mpr (by omega))
 refine⟨_,rfl,_,_,rfl,rfl,k _ H1 s1 ?_⟩
 rw[show n-((L:Int)-M'+n-1)=(M':Int)-L+1 by omega]
 exact B3w L1 L2 M1 M2 hlt
inductive Wy where
 |down
 |up
 |floor
 |ceiling
 |halfUp
 |halfDown
 |halfEven
 |fiveUp
noncomputable def Wy.name:Wy ->Str
 | .down=>"down"
 | .up=>"up"
 | .floor=>"floor"
 | .ceiling=>"ceiling"
 | .halfUp=>"half up"
 | .halfDown=>"half down"
 | .halfEven=>"half even"
 | .fiveUp=>"five up"
noncomputable def Wy.cls:Wy ->Str
 | .down=>"Down"
 | .up=>"Up"
 | .floor=>"Floor"
 | .ceiling=>"Ceiling"
 | .halfUp=>"HalfUp"
 | .halfDown=>"HalfDown"
 | .halfEven=>"HalfEven"
 | .fiveUp=>"FiveUp"
theorem Wy.inj{a b:Wy}(h:a.name=b.name):a=b:=by
 cases a<;>cases b<;>first|rfl|exact absurd h (by decide+kernel)
structure B1h(K:Frag)(mg:Str ->Option Value)(x:Str)(C CW:Addr):Prop where
 g:mg x=some (.ref C)
 cl:Cls K C
 mk0:Mk0 K C
 ca:findIn K (.ref C) "__class__"=some (some (.builtin "object.__class__"))
 sn:specialIn K (.builtin "object.__class__") "__get__"=some (some (.builtin "getset_descriptor.__get__"))
 tk:takesIn K (.builtin "object.__class__")=some true
 ob:mroIn K C (.type "object")=some true
 up:kitOne K (.ref C) (.ref CW)=some true
noncomputable def A4q (s:Str):Sp:=fun vs H Q _=>∃p,vs=[.ref p]/\Q (.str s) H
noncomputable def G6a (P:Program) (w:World) (K:Frag) (mg:Str ->Option Value) (base:Heap) (C:Addr) (s:Str):Prop:=Has P w K mg base C "name" 1 ["self"] (A4q s)
noncomputable abbrev sN0:Stmt:=(G6 (top 24) 0)
theorem J6c:B7 ["self"] ["self"] (A7 sN0):=scK
theorem J3r(F:Fun K "name" "Down.name" sN0 f fd):sI P w K mg base 1 f fd ["self"] (A4q "down"):=by
 refine A8.up (F.ok J6c (fun vs H Q E h=>?_) (fun cdv A outer s H vs Q E hr h=>?_))
 . obtain⟨p,rfl,_⟩:=h
   rfl
 obtain⟨p,rfl,k⟩:=h
 exact⟨_,A5 (B0 C5),k⟩
noncomputable abbrev sN1:Stmt:=(G6 (top 25) 0)
theorem J6t:B7 ["self"] ["self"] (A7 sN1):=scK
theorem J0j(F:Fun K "name" "Up.name" sN1 f fd):sI P w K mg base 1 f fd ["self"] (A4q "up"):=by
 refine A8.up (F.ok J6t (fun vs H Q E h=>?_) (fun cdv A outer s H vs Q E hr h=>?_))
 . obtain⟨p,rfl,_⟩:=h
   rfl
 obtain⟨p,rfl,k⟩:=h
 exact⟨_,A5 (B0 C5),k⟩
noncomputable abbrev sN2:Stmt:=(G6 (top 26) 0)
theorem J6p:B7 ["self"] ["self"] (A7 sN2):=scK
theorem J1f(F:Fun K "name" "Floor.name" sN2 f fd):sI P w K mg base 1 f fd ["self"] (A4q "floor"):=by
 refine A8.up (F.ok J6p (fun vs H Q E h=>?_) (fun cdv A outer s H vs Q E hr h=>?_))
 . obtain⟨p,rfl,_⟩:=h
   rfl
 obtain⟨p,rfl,k⟩:=h
 exact⟨_,A5 (B0 C5),k⟩
noncomputable abbrev sN3:Stmt:=(G6 (top 27) 0)
theorem J5u:B7 ["self"] ["self"] (A7 sN3):=scK
theorem J3n(F:Fun K "name" "Ceiling.name" sN3 f fd):sI P w K mg base 1 f fd ["self"] (A4q "ceiling"):=by
 refine A8.up (F.ok J5u (fun vs H Q E h=>?_) (fun cdv A outer s H vs Q E hr h=>?_))
 . obtain⟨p,rfl,_⟩:=h
   rfl
 obtain⟨p,rfl,k⟩:=h
 exact⟨_,A5 (B0 C5),k⟩
noncomputable abbrev sN4:Stmt:=(G6 (top 28) 0)
theorem J6y:B7 ["self"] ["self"] (A7 sN4):=scK
theorem J0x(F:Fun K "name" "HalfUp.name" sN4 f fd):sI P w K mg base 1 f fd ["self"] (A4q "half up"):=by
 refine A8.up (F.ok J6y (fun vs H Q E h=>?_) (fun cdv A outer s H vs Q E hr h=>?_))
 . obtain⟨p,rfl,_⟩:=h
   rfl
 obtain⟨p,rfl,k⟩:=h
 exact⟨_,A5 (B0 C5),k⟩
noncomputable abbrev sN5:Stmt:=(G6 (top 29) 0)
theorem J5q:B7 ["self"] ["self"] (A7 sN5):=scK
theorem J1q(F:Fun K "name" "HalfDown.name" sN5 f fd):sI P w K mg base 1 f fd ["self"] (A4q "half down"):=by
 refine A8.up (F.ok J5q (fun vs H Q E h=>?_) (fun cdv A outer s H vs Q E hr h=>?_))
 . obtain⟨p,rfl,_⟩:=h
   rfl
 obtain⟨p,rfl,k⟩:=h
 exact⟨_,A5 (B0 C5),k⟩
noncomputable abbrev sN6:Stmt:=(G6 (top 30) 0)
theorem J6g:B7 ["self"] ["self"] (A7 sN6):=scK
theorem J1e(F:Fun K "name" "HalfEven.name" sN6 f fd):sI P w K mg base 1 f fd ["self"] (A4q "half even"):=by
 refine A8.up (F.ok J6g (fun vs H Q E h=>?_) (fun cdv A outer s H vs Q E hr h=>?_))
 . obtain⟨p,rfl,_⟩:=h
   rfl
 obtain⟨p,rfl,k⟩:=h
 exact⟨_,A5 (B0 C5),k⟩
noncomputable abbrev sN7:Stmt:=(G6 (top 31) 0)
theorem J5h:B7 ["self"] ["self"] (A7 sN7):=scK
theorem J1w(F:Fun K "name" "FiveUp.name" sN7 f fd):sI P w K mg base 1 f fd ["self"] (A4q "five up"):=by
 refine A8.up (F.ok J5h (fun vs H Q E h=>?_) (fun cdv A outer s H vs Q E hr h=>?_))
 . obtain⟨p,rfl,_⟩:=h
   rfl
 obtain⟨p,rfl,k⟩:=h
 exact⟨_,A5 (B0 C5),k⟩
noncomputable def G4m (K:Frag) (H:Hp) (v:V):Prop:=∃t b,TyE K H v t/\kitOne K t (.type "str")=some b/\(b=false\/∃z,v= .str z/\∀y:Wy,z≠y.name)
theorem A5g{C:Addr}{σ:L2.St}{H:Hp}{Q:VK}(k:∀p dx H',H p=none ->B5 H H' ->H' p=some (.ins C dx []) ->Q (.ref p) H'):G7b C σ H Q:=fun x dx n1 n2 ne=>
 k x dx _ n1 ((B5.upd n2).trans (B5.upd (by rw[D5 (Ne.symm ne)];exact n1))) A6
noncomputable abbrev B2f:Stmt:=(top 32)
noncomputable def B7f (K:Frag) (CB:Addr) (cw:Wy ->Addr):Sp:=fun vs H Q E=>∃v,vs=[v]/\((∃y:Wy,v= .str y.name/\∀p dx H',H p=none ->B5 H H' ->H' p=some (.ins (cw y) dx []) ->Q (.ref p) H')\/(G4m K H v/\E (.ref CB) none H))
theorem G2m:B7 ["name"] ["name"] (A7 B2f):=scK
theorem D2u{f CB CW:Addr}{cw:Wy ->Addr}(D:Def K mg "way_of" ["name"] B2f f fd)(O:Own mg)(T:Kit K)(B:Err K mg "BadContext" CB)(W:∀y:Wy,B1h K mg y.cls (cw y) CW):
   sI P w K mg base 1 f fd ["name"] (B7f K CB cw):=by
 refine D.F.okE G2m (fun vs H Q E h=>?_) (fun X cdv A outer s H vs Q E hX hr hx h=>?_)
 . obtain⟨v,rfl,_⟩:=h
   rfl
 subst hX
 obtain⟨v,rfl,h⟩:=h
 refine⟨_,(A4 (D9 (A3c (V5 (B4v O.isi (pv 0) (pty O.str_ boot_str)))) (A5 (A2v (by rfl) B.g B.q PySem.F.excBase_ValueError hr.hd hx (A0 C5 A3))) C6) (A4 (D9 (B9 D4 (pv 0) C5 (B8 _)) (A5 (B0 (A5m (W .down).mk0 rfl (W .down).g))) C6) (A4 (D9 (B9 D4 (pv 0) C5 (B8 _)) (A5 (B0 (A5m (W .up).mk0 rfl (W .up).g))) C6) (A4 (D9 (B9 D4 (pv 0) C5 (B8 _)) (A5 (B0 (A5m (W .floor).mk0 rfl (W .floor).g))) C6) (A4 (D9 (B9 D4 (pv 0) C5 (B8 _)) (A5 (B0 (A5m (W .ceiling).mk0 rfl (W .ceiling).g))) C6) (A4 (D9 (B9 D4 (pv 0) C5 (B8 _)) (A5 (B0 (A5m (W .halfUp).mk0 rfl (W .halfUp).g))) C6) (A4 (D9 (B9 D4 (pv 0) C5 (B8 _)) (A5 (B0 (A5m (W .halfDown).mk0 rfl (W .halfDown).g))) C6) (A4 (D9 (B9 D4 (pv 0) C5 (B8 _)) (A5 (B0 (A5m (W .halfEven).mk0 rfl (W .halfEven).g))) C6) (A4 (D9 (B9 D4 (pv 0) C5 (B8 _)) (A5 (B0 (A5m (W .fiveUp).mk0 rfl (W .fiveUp).g))) C6) (A5 (A2v (by rfl) B.g B.q PySem.F.excBase_ValueError hr.hd hx (A0 C5 A3)))))))))))),?_⟩
 have z1:1<=sizeLine:=C7 (by decide)
 rcases h with⟨y,rfl,k⟩|⟨⟨t,b,ty,kk,bad⟩,k⟩
 . refine⟨_,rfl,_,_,_,_,true,rfl,rfl,D0u _,T.str_str,_,rfl,U6 ?_⟩
   refine⟨_,rfl,rfl,_,rfl,G8 (fun e=>?_) (fun n0=>?_)⟩
   . have q:y= .down:=Wy.inj (V.str.inj (e:V.str y.name=V.str (Wy.name .down)))
     subst q
     exact A5g k
   refine⟨_,rfl,rfl,_,rfl,G8 (fun e=>?_) (fun n1=>?_)⟩
   . have q:y= .up:=Wy.inj (V.str.inj (e:V.str y.name=V.str (Wy.name .up)))
     subst q
     exact A5g k
   refine⟨_,rfl,rfl,_,rfl,G8 (fun e=>?_) (fun n2=>?_)⟩
   . have q:y= .floor:=Wy.inj (V.str.inj (e:V.str y.name=V.str (Wy.name .floor)))
     subst q
     exact A5g k
   refine⟨_,rfl,rfl,_,rfl,G8 (fun e=>?_) (fun n3=>?_)⟩
   . have q:y= .ceiling:=Wy.inj (V.str.inj (e:V.str y.name=V.str (Wy.name .ceiling)))
     subst q
     exact A5g k
   refine⟨_,rfl,rfl,_,rfl,G8 (fun e=>?_) (fun n4=>?_)⟩
   . have q:y= .halfUp:=Wy.inj (V.str.inj (e:V.str y.name=V.str (Wy.name .halfUp)))
     subst q
     exact A5g k
   refine⟨_,rfl,rfl,_,rfl,G8 (fun e=>?_) (fun n5=>?_)⟩
   . have q:y= .halfDown:=Wy.inj (V.str.inj (e:V.str y.name=V.str (Wy.name .halfDown)))
     subst q
     exact A5g k
   refine⟨_,rfl,rfl,_,rfl,G8 (fun e=>?_) (fun n6=>?_)⟩
   . have q:y= .halfEven:=Wy.inj (V.str.inj (e:V.str y.name=V.str (Wy.name .halfEven)))
     subst q
     exact A5g k
   refine⟨_,rfl,rfl,_,rfl,G8 (fun e=>?_) (fun n7=>?_)⟩
   . have q:y= .fiveUp:=Wy.inj (V.str.inj (e:V.str y.name=V.str (Wy.name .fiveUp)))
     subst q
     exact A5g k
   cases y with
   |down=>exact absurd rfl n0
   |up=>exact absurd rfl n1
   |floor=>exact absurd rfl n2
   |ceiling=>exact absurd rfl n3
   |halfUp=>exact absurd rfl n4
   |halfDown=>exact absurd rfl n5
   |halfEven=>exact absurd rfl n6
   |fiveUp=>exact absurd rfl n7
 refine⟨_,rfl,_,_,_,_,b,rfl,rfl,ty,kk,_,rfl,?_⟩
 cases b with
 |false=>exact Y3 ⟨z1,k⟩
 | true=>
   obtain⟨z,rfl,nz⟩:=bad.resolve_left (by decide)
   refine U6 ?_
   refine⟨_,rfl,rfl,_,rfl,G8 (fun e=>absurd (V.str.inj e) (nz .down)) (fun n0=>?_)⟩
   refine⟨_,rfl,rfl,_,rfl,G8 (fun e=>absurd (V.str.inj e) (nz .up)) (fun n1=>?_)⟩
   refine⟨_,rfl,rfl,_,rfl,G8 (fun e=>absurd (V.str.inj e) (nz .floor)) (fun n2=>?_)⟩
   refine⟨_,rfl,rfl,_,rfl,G8 (fun e=>absurd (V.str.inj e) (nz .ceiling)) (fun n3=>?_)⟩
   refine⟨_,rfl,rfl,_,rfl,G8 (fun e=>absurd (V.str.inj e) (nz .halfUp)) (fun n4=>?_)⟩
   refine⟨_,rfl,rfl,_,rfl,G8 (fun e=>absurd (V.str.inj e) (nz .halfDown)) (fun n5=>?_)⟩
   refine⟨_,rfl,rfl,_,rfl,G8 (fun e=>absurd (V.str.inj e) (nz .halfEven)) (fun n6=>?_)⟩
   refine⟨_,rfl,rfl,_,rfl,G8 (fun e=>absurd (V.str.inj e) (nz .fiveUp)) (fun n7=>?_)⟩
   exact⟨z1,k⟩
noncomputable def A0w:List Str:=["void","split","burst","sunk","faint","off","cut"]
noncomputable def B1d:List V:=A0w.map V.str
structure D4h(K:Frag)(mg:Str ->Option Value)(aS:Addr):Prop where
 g:mg "SIGNALS"=some (.ref aS)
 ty:∃o,K.lookup aS=some o/\o.cls= .type "tuple"
 sq:∀H,SqT K H aS B1d
noncomputable abbrev B3a:Stmt:=(top 37)
noncomputable def J5v (K:Frag) (H:Hp) (x:V):Prop:=∃t b,TyE K H x t/\kitOne K t (.type "str")=some b/\(b=false\/∃z,x= .str z/\z ∉ A0w)
noncomputable def C2w (K:Frag) (H:Hp) (v:V):Prop:=(∃t,TyE K H v t/\kitOne K t (.type "list")=some false)\/(∃(p:Addr) (zs:List Str) (x:V) (r:List V),v= .ref p/\H p=some (.lst (zs.map V.str++x::r))/\(∀z∈zs,z∈A0w)/\J5v K H x)
noncomputable def B7m (K:Frag) (CB:Addr):Sp:=fun vs H Q E=>∃v,vs=[v]/\((∃(p:Addr) (zs:List Str),v= .ref p/\H p=some (.lst (zs.map V.str))/\(∀z∈zs,z∈A0w)/\Q .non H)\/(C2w K H v/\E (.ref CB) none H))
theorem scNeedS:B7 ["names","name"] ["names"] (A7 B3a):=scK
theorem D3d{f CB aS:Addr}(D:Def K mg "need_signals" ["names"] B3a f fd)(O:Own mg)(T:Kit K)(B:Err K mg "BadContext" CB)(SG:D4h K mg aS):sI P w K mg base 1 f fd ["names"] (B7m K CB):=by
 refine D.F.okE scNeedS (fun vs H Q E h=>?_) (fun X cdv A outer s H vs Q E hX hr hx h=>?_)
 . obtain⟨v,rfl,_⟩:=h
   rfl
 subst hX
 obtain⟨v,rfl,h⟩:=h
 refine⟨_,(A4 (D9 (A3c (V5 (B4v O.isi (pv 0) (pty O.list_ boot_list)))) (A5 (A2v (by rfl) B.g B.q PySem.F.excBase_ValueError hr.hd hx (A0 C5 A3))) C6) (A5 (A9u PassesOwn.leaving rfl (A9c (pv 0)) (U1 (i:=1) scNeedS.nd rfl (Or.inl rfl)) (A5 (D9 (PW.pt (B0v (A3c (V5 (B4v O.isi (pv 1) (pty O.str_ boot_str)))) (A5w (B9 B8j (pv 1) (C2g SG.g) (by rfl))))) (A5 (A2v (by rfl) B.g B.q PySem.F.excBase_ValueError hr.hd hx (A0 C5 A3))) C6))))),?_⟩
 have z1:1<=sizeLine:=C7 (by decide)
 rcases h with⟨p,zs,rfl,hp,hz,k⟩|⟨(⟨t,ty,kk⟩|⟨p,zs,x,r,rfl,hp,hz,t,b,ty,kk,bad⟩),k⟩
 . refine⟨_,rfl,_,_,_,_,true,rfl,rfl,C0p hp,T.list_list,_,rfl,U6 ?_⟩
   refine⟨_,rfl,p,rfl,⟨_,SqL.of hp⟩,A5h (xs:=zs.map V.str) (fun i σ H'=>H'=H/\∃v,σ=[sr p,v]) ⟨rfl,none,rfl⟩ ?_ ?_ ?_⟩
   . rintro i σ H' _ ⟨rfl,_⟩
     exact SqL.of hp
   . rintro i x σ H' hi ⟨rfl,v,rfl⟩
     obtain⟨z,hzm,rfl⟩:=List.mem_map.mp (List.mem_of_getElem? hi)
     refine⟨_,rfl,_,_,_,_,true,rfl,rfl,D0u _,T.str_str,_,rfl,U6 ?_⟩
     refine⟨_,rfl,aS,B1d,rfl,.inr (SG.sq _),rfl,Y9 _,_,rfl,?_⟩
     have e:inV (.str z) B1d=true:=by
       show inV (.str z) (A0w.map V.str)=true
       rw[A0y]
       simpa using hz z hzm
     rw[e]
     exact U6 ⟨rfl,_,rfl⟩
   . rintro σ H' ⟨rfl,v,rfl⟩
     exact k
 . exact⟨_,rfl,_,_,_,_,false,rfl,rfl,ty,kk,_,rfl,Y3 ⟨z1,k⟩⟩
 refine⟨_,rfl,_,_,_,_,true,rfl,rfl,C0p hp,T.list_list,_,rfl,U6 ?_⟩
 refine⟨_,rfl,p,rfl,⟨_,SqL.of hp⟩,A5h (xs:=zs.map V.str++x::r) (fun i σ H'=>H'=H/\i<=zs.length/\∃v,σ=[sr p,v]) ⟨rfl,Nat.zero_le _,none,rfl⟩ ?_ ?_ ?_⟩
 . rintro i σ H' _ ⟨rfl,_⟩
   exact SqL.of hp
 . rintro i y σ H' hi ⟨rfl,hl,v,rfl⟩
   by_cases hlt:i<zs.length
   . rw[List.getElem?_append_left (by simpa using hlt)] at hi
     obtain⟨z,hzm,rfl⟩:=List.mem_map.mp (List.mem_of_getElem? hi)
     refine⟨_,rfl,_,_,_,_,true,rfl,rfl,D0u _,T.str_str,_,rfl,U6 ?_⟩
     refine⟨_,rfl,aS,B1d,rfl,.inr (SG.sq _),rfl,Y9 _,_,rfl,?_⟩
     have e:inV (.str z) B1d=true:=by
       show inV (.str z) (A0w.map V.str)=true
       rw[A0y]
       simpa using hz z hzm
     rw[e]
     exact U6 ⟨rfl,by omega,_,rfl⟩
   . have e:i=zs.length:=by omega
     subst e
     rw[List.getElem?_append_right (by simp)] at hi
     simp at hi
     subst hi
     refine⟨_,rfl,_,_,_,_,b,rfl,rfl,ty,kk,_,rfl,?_⟩
     cases b with
     |false=>exact Y3 (Y3 ⟨z1,k⟩)
     | true=>
       obtain⟨z,rfl,nz⟩:=bad.resolve_left (by decide)
       refine U6 ⟨_,rfl,aS,B1d,rfl,.inr (SG.sq _),rfl,Y9 _,_,rfl,?_⟩
       have e:inV (.str z) B1d=false:=by
         show inV (.str z) (A0w.map V.str)=false
         rw[A0y]
         simpa using nz
       rw[e]
       exact Y3 ⟨z1,k⟩
 rintro σ H' ⟨rfl,hl,_⟩
 exfalso
 rw[List.length_append,List.length_map,List.length_cons] at hl
 omega
noncomputable abbrev B2w:Stmt:=(top 38)
noncomputable def V1 (zs:List Str):List Str:=A0w.filter fun z=>zs.contains z
noncomputable def B7c (K:Frag):Sp:=fun vs H Q _=>∃(p:Addr) (zs:List Str),vs=[.ref p]/\SqL K H p (zs.map V.str)/\∀l H',B5 H H' ->H l=none ->H' l=some (.lst ((V1 zs).map V.str)) ->Q (.ref l) H'
theorem G0z:B7 ["names"] ["names"] (A7 B2w):=scK
theorem D0v{f aS:Addr}(D:Def K mg "in_order" ["names"] B2w f fd)(SG:D4h K mg aS):sI P w K mg base 1 f fd ["names"] (B7c K):=by
 refine A8.up (D.F.ok G0z (fun vs H Q E h=>?_) (fun cdv A outer s H vs Q E hr h=>?_))
 . obtain⟨p,zs,rfl,_⟩:=h
   rfl
 obtain⟨p,zs,rfl,hp,k⟩:=h
 refine⟨_,(A5 (B0 (A8w (N:=["name"]) (F:=["names"]) (js:=[0]) (G5.of1 ⟨rfl,by decide+kernel,by decide+kernel,by decide+kernel,by decide+kernel⟩ (by rfl) (by rfl) ⟨_,by rfl⟩ (by rfl) (by rfl)) (.inl hr.hd) rfl (C3g (C2g SG.g)) rfl (fun C s₀ H₀ ex pn h=>U1 (i:=0) (by decide+kernel:(["name","names"]:List Str).Nodup) rfl (Or.inl rfl)) (fun C s₀ H₀ ex pn h=>(B9 (A2q (K:=K) rfl) (pv 0) (pv 1) (by rfl))) (fun C s₀ H₀ ex pn h=>(pv 0))))),?_⟩
 refine B4e (zs:=A0w) (f:=fun z=>zs.contains z) (σf:=[sr p]) SG.sq (by decide) (fun z H' Qb sm q=>?_) (fun z H' Qv q=>⟨_,rfl,q⟩) (fun D H' sm nd e=>k D H' sm nd e) rfl
 refine⟨_,rfl,_,rfl,p,_,rfl,.inl (sm.seq hp),rfl,Y9 _,_,rfl,?_⟩
 show Qb (inV (.str z) (zs.map V.str)) H'
 rw[A0y]
 exact q
structure B0d(K:Frag)(mg:Str ->Option Value)(CC:Addr):Prop where
 g:mg "Context"=some (.ref CC)
 cl:Cls K CC
 n_room:Y6 K CC "room"
 n_rule:Y6 K CC "rule"
 n_least:Y6 K CC "least"
 n_most:Y6 K CC "most"
 n_risen:Y6 K CC "risen"
 n_trapped:Y6 K CC "trapped"
noncomputable def A1s (r s l m a b:V):List (Str×V):=putF "trapped" b (putF "risen" a (putF "most" m (putF "least" l (putF "rule" s (putF "room" r [])))))
theorem A1r(r s l m a b:V)(n:Str):(A1s r s l m a b).lookup n=if n="trapped" then some b else if n="risen" then some a else if n="most" then some m else if n="least" then some l else if n="rule" then some s else if n="room" then some r else none:=by
 unfold A1s
 rw[G2,G2,G2,G2,G2,G2]
 rfl
theorem A3u(r s l m a b:V):(A1s r s l m a b).lookup ("room":Str)=some r:=by rw[A1r,if_neg (by decide+kernel),if_neg (by decide+kernel),if_neg (by decide+kernel),if_neg (by decide+kernel),if_neg (by decide+kernel),if_pos rfl]
theorem D0b(r s l m a b:V):(A1s r s l m a b).lookup ("rule":Str)=some s:=by rw[A1r,if_neg (by decide+kernel),if_neg (by decide+kernel),if_neg (by decide+kernel),if_neg (by decide+kernel),if_pos rfl]
theorem B5f(r s l m a b:V):(A1s r s l m a b).lookup ("least":Str)=some l:=by rw[A1r,if_neg (by decide+kernel),if_neg (by decide+kernel),if_neg (by decide+kernel),if_pos rfl]
theorem B2v(r s l m a b:V):(A1s r s l m a b).lookup ("most":Str)=some m:=by rw[A1r,if_neg (by decide+kernel),if_neg (by decide+kernel),if_pos rfl]
theorem A3h(r s l m a b:V):(A1s r s l m a b).lookup ("risen":Str)=some a:=by rw[A1r,if_neg (by decide+kernel),if_pos rfl]
theorem B0q(r s l m a b:V):(A1s r s l m a b).lookup ("trapped":Str)=some b:=by rw[A1r,if_pos rfl]
theorem A6y(r s l m a b:V):(A1s r s l m a b).lookup ("way":Str)=none:=by rw[A1r,if_neg (by decide+kernel),if_neg (by decide+kernel),if_neg (by decide+kernel),if_neg (by decide+kernel),if_neg (by decide+kernel),if_neg (by decide+kernel)]
theorem A3f(r s l m a b:V):(A1s r s l m a b).lookup ("lowest":Str)=none:=by rw[A1r,if_neg (by decide+kernel),if_neg (by decide+kernel),if_neg (by decide+kernel),if_neg (by decide+kernel),if_neg (by decide+kernel),if_neg (by decide+kernel)]
theorem A8n(r s l m a b:V):(A1s r s l m a b).lookup ("flags":Str)=none:=by rw[A1r,if_neg (by decide+kernel),if_neg (by decide+kernel),if_neg (by decide+kernel),if_neg (by decide+kernel),if_neg (by decide+kernel),if_neg (by decide+kernel)]
theorem B7k(r s l m a b:V):(A1s r s l m a b).lookup ("clear":Str)=none:=by rw[A1r,if_neg (by decide+kernel),if_neg (by decide+kernel),if_neg (by decide+kernel),if_neg (by decide+kernel),if_neg (by decide+kernel),if_neg (by decide+kernel)]
theorem B9m(r s l m a b:V):(A1s r s l m a b).lookup ("trap":Str)=none:=by rw[A1r,if_neg (by decide+kernel),if_neg (by decide+kernel),if_neg (by decide+kernel),if_neg (by decide+kernel),if_neg (by decide+kernel),if_neg (by decide+kernel)]
theorem A8x(r s l m a b:V):(A1s r s l m a b).lookup ("traps":Str)=none:=by rw[A1r,if_neg (by decide+kernel),if_neg (by decide+kernel),if_neg (by decide+kernel),if_neg (by decide+kernel),if_neg (by decide+kernel),if_neg (by decide+kernel)]
theorem A1u(r s l m a b:V):(A1s r s l m a b).lookup ("raised":Str)=none:=by rw[A1r,if_neg (by decide+kernel),if_neg (by decide+kernel),if_neg (by decide+kernel),if_neg (by decide+kernel),if_neg (by decide+kernel),if_neg (by decide+kernel)]
structure A0p(CC:Addr)(H:Hp)(c:Addr)(r:Int)(y:Wy)(l m:Int)(a b:Addr)(xs ys:List V):Prop where
 ins:∃dx,H c=some (.ins CC dx (A1s (.int r) (.str y.name) (.int l) (.int m) (.ref a) (.ref b)))
 ha:H a=some (.lst xs)
 hb:H b=some (.lst ys)
theorem A0p.same{CC:Addr}{H H':Hp}{c:Addr}{r:Int}{y:Wy}{l m:Int}{a b:Addr}{xs ys:List V}(h:A0p CC H c r y l m a b xs ys)(e:B5 H H'):A0p CC H' c r y l m a b xs ys:=by
 obtain⟨⟨dx,z⟩,z1,z2⟩:=h
 exact⟨⟨dx,e _ _ z⟩,e _ _ z1,e _ _ z2⟩
noncomputable abbrev A0x:Stmt:=(G6 (top 35) 0)
noncomputable abbrev B6r:Stmt:=(G6 (top 35) 1)
noncomputable abbrev B7q:Stmt:=(G6 (top 35) 2)
noncomputable abbrev A9h:Stmt:=(G6 (top 35) 3)
noncomputable abbrev A9z:Stmt:=(G6 (top 35) 6)
noncomputable def C1x (l:Int) (v:V):Prop:=(v= .non/\l= -60)\/(v= .int l/\ -60<=l/\l<=0)
noncomputable def G5w (K:Frag) (S:Hp ->Prop) (v1 v2 v3 v4:V):Prop:=(∀H',S H' ->B4s K H' 1 24 v1)\/(A6t 1 24 v1/\((∀H',S H' ->G4m K H' v2)\/((∃y:Wy,v2= .str y.name)/\((v3≠ .non/\∀H',S H' ->B4s K H' (-60) 0 v3)\/((∃l,C1x l v3)/\∀H',S H' ->B4s K H' 0 60 v4)))))
theorem Exc.none{p a:Addr}{H H':Hp}{o:HO}(x:Exc p H H')(hp:H' p=some o)(n:H' a=none):H a=none:=by
 cases q:H a with
 |none=>rfl
 | some u=>
   have:=x a u q (fun e=>by rw[e,hp] at n;cases n)
   rw[n] at this
   cases this
noncomputable def A9p (K:Frag) (CC CB:Addr):Sp:=fun vs H Q E=>∃p dx v1 v2 v3 v4,vs=[.ref p,v1,v2,v3,v4]/\H p=some (.ins CC dx [])/\
 ((∃r y l m,v1= .int r/\1<=r/\r<=24/\v2= .str (Wy.name y)/\C1x l v3/\v4= .int m/\0<=m/\m<=60/\∀a b H',Exc p H H' ->H a=none ->H b=none ->A0p CC H' p r y l m a b [] [] ->Q .non H')\/
  (G5w K (Exc p H) v1 v2 v3 v4/\∀H',Exc p H H' ->E (.ref CB) none H'))
theorem C6n:B7 Q39 Q39 (A7 A0x):=scK
theorem D3s:A8f 1 24:=by unfold A8f;decide+kernel
theorem C2r:A8f (-60) 0:=by unfold A8f;decide+kernel
theorem D1w:A8f 0 60:=by unfold A8f;decide+kernel
theorem C1v{f fB fW CC CB CW:Addr}{dV:Value}{cw:Wy ->Addr}{fd fdB fdW:FuncData}(F:C9m K "__init__" "Context.__init__" A0x dV f fd)(dA:Def K mg "bounded" Q7 A8b fB fdB)(dC:Def K mg "way_of" ["name"] B2f fW fdW)
   (dB:sI P w K mg base 2 fB fdB Q7 (B6d K CB)) (dD:sI P w K mg base 1 fW fdW ["name"] (B7f K CB cw)) (C:B0d K mg CC)
   (W:∀y:Wy,B1h K mg y.cls (cw y) CW) (N:∀y:Wy,G6a P w K mg base (cw y) y.name):sI P w K mg base 3 f fd Q39 (A9p K CC CB):=by
 refine F.okE C6n (fun vs H Q E h=>?_) (fun X cdv A outer s H vs Q E hX hr hx h=>?_)
 . obtain⟨p,dx,v1,v2,v3,v4,rfl,_⟩:=h
   rfl
 subst hX
 obtain⟨p,dx,v1,v2,v3,v4,rfl,hp,h⟩:=h
 obtain⟨y,hy⟩:∃y:Wy,∀z:Wy,v2= .str z.name ->z=y:=by
   by_cases q:∃z:Wy,v2= .str z.name
   . obtain⟨z,rfl⟩:=q
     exact⟨z,fun u e=>Wy.inj (V.str.inj e.symm)⟩
   . exact⟨.down,fun z e=>absurd ⟨z,e⟩ q⟩
 obtain⟨fN,fdN,mN,gN,bN⟩:=N y
 refine⟨_,(A4 (A0c (pv 0) (C4 dA dB hr hx (A0 (pv 1) (A0 A1 (A0 A1 A3)))) rfl) (A4 (A0c (pv 0) (A0t (C4 dC dD hr hx (A0 (pv 2) A3)) (W y).cl mN gN hr bN .nil hx) rfl) (A4 (B3 (A0c (pv 0) (V4 (B9 G7q (pv 3) G6n (B8 _)) (A4z A2c A1) (C4 dA dB hr hx (A0 (pv 3) (A0 (A4z A2c A1) (A0 A1 A3))))) rfl)) (A4 (A0c (pv 0) (C4 dA dB hr hx (A0 (pv 4) (A0 A1 (A0 A1 A3)))) rfl) (A4 (A0c (pv 0) (G4 A3) rfl) (A5 (A0c (pv 0) (G4 A3) rfl))))))),?_⟩
 have lz:∀(fs:List (Str×V)) (f:Str) (v:V) (n:Nat),fs.length<=n ->(putF f v fs).length<=n+1:=fun fs f v n h=>Nat.le_trans (A0u f v fs) (Nat.succ_le_succ h)
 have q0:(([]:List (Str×V))).length<=0:=Nat.le_refl _
 have z0:0<=sizeLine:=Nat.zero_le _
 rcases h with⟨r,y',l,m,rfl,r1,r2,rfl,hl,rfl,m1,m2,k⟩|⟨bad,k⟩
 . obtain rfl:=hy _ rfl
   refine⟨_,rfl,_,_,_,rfl,D3s,.inl ⟨⟨r,rfl,r1,r2⟩,?_⟩⟩
   refine⟨_,rfl,p,CC,dx,[],rfl,hp,C.cl,C.n_room,by show 0<1000;decide,?_⟩
   refine⟨_,rfl,_,rfl,.inl ⟨_,rfl,fun q dq H2 nq s2 eq=>⟨q,dq,[],rfl,eq,rfl,_,rfl,?_⟩⟩⟩
   have hp2:=s2 _ _ (A6 (H:=H) (a:=p) (o:= .ins CC dx (putF "room" (.int r) [])))
   have x2:Exc p H H2:=(Exc.upd (H:=H) (o:= .ins CC dx (putF "room" (.int r) []))).trans (.of s2)
   refine⟨_,rfl,p,CC,dx,_,rfl,hp2,C.cl,C.n_rule,Nat.lt_of_le_of_lt (lz _ _ _ 0 q0) (by decide),?_⟩
   let I_:L2.St ->L2.Hp ->Prop:=fun σ' H'=>σ'=[sr p,si r,sR y'.name,some v3,si m]/\Exc p H H'/\H' p=some (.ins CC dx (putF "least" (.int l) (putF "rule" (.str y'.name) (putF "room" (.int r) []))))
   refine⟨I_,?_,?_⟩
   . refine⟨_,rfl,rfl,_,rfl,?_⟩
     rcases hl with⟨rfl,rfl⟩|⟨rfl,l1,l2⟩
     . refine A1f rfl ⟨_,rfl,?_⟩
       exact⟨_,rfl,p,CC,dx,_,rfl,A6,C.cl,C.n_least,Nat.lt_of_le_of_lt (lz _ _ _ 1 (lz _ _ _ 0 q0)) (by decide),rfl,(x2.trans Exc.upd).trans Exc.upd,A6⟩
     . refine U5 (by intro z;cases z) ⟨_,rfl,_,rfl,_,_,_,rfl,C2r,.inl ⟨⟨l,rfl,l1,l2⟩,?_⟩⟩
       exact⟨_,rfl,p,CC,dx,_,rfl,A6,C.cl,C.n_least,Nat.lt_of_le_of_lt (lz _ _ _ 1 (lz _ _ _ 0 q0)) (by decide),rfl,(x2.trans Exc.upd).trans Exc.upd,A6⟩
   refine L2.hideG fun Z_ z_=>?_
   rintro σ' H4 ⟨rfl,x4,hp4⟩
   subst z_
   clear I_
   refine⟨_,rfl,_,_,_,rfl,D1w,.inl ⟨⟨m,rfl,m1,m2⟩,?_⟩⟩
   refine⟨_,rfl,p,CC,dx,_,rfl,hp4,C.cl,C.n_most,Nat.lt_of_le_of_lt (lz _ _ _ 2 (lz _ _ _ 1 (lz _ _ _ 0 q0))) (by decide),?_⟩
   refine⟨z0,fun a na=>?_⟩
   refine⟨_,rfl,p,CC,dx,_,rfl,B5.upd na _ _ A6,C.cl,C.n_risen,Nat.lt_of_le_of_lt (lz _ _ _ 3 (lz _ _ _ 2 (lz _ _ _ 1 (lz _ _ _ 0 q0)))) (by decide),?_⟩
   refine⟨z0,fun b nb=>?_⟩
   refine⟨_,rfl,p,CC,dx,_,rfl,B5.upd nb _ _ A6,C.cl,C.n_trapped,Nat.lt_of_le_of_lt (lz _ _ _ 4 (lz _ _ _ 3 (lz _ _ _ 2 (lz _ _ _ 1 (lz _ _ _ 0 q0))))) (by decide),?_⟩
   have x5:=x4.trans (Exc.upd (H:=H4) (o:= .ins CC dx (putF "most" (.int m) (putF "least" (.int l) (putF "rule" (.str y'.name) (putF "room" (.int r) []))))))
   have nap:a≠p:=fun e=>by rw[e,A6] at na;cases na
   have nbp:b≠p:=fun e=>by rw[e,A6] at nb;cases nb
   have x6:=(x5.trans (.of (B5.upd (o:= .lst []) na))).trans (Exc.upd (o:= .ins CC dx (putF "risen" (.ref a) (putF "most" (.int m) (putF "least" (.int l) (putF "rule" (.str y'.name) (putF "room" (.int r) [])))))))
   have x7:=(x6.trans (.of (B5.upd (o:= .lst []) nb))).trans (Exc.upd (o:= .ins CC dx (A1s (.int r) (.str y'.name) (.int l) (.int m) (.ref a) (.ref b))))
   refine k a b _ x7 (x5.none A6 na) (x6.none A6 nb) ⟨⟨dx,A6⟩,?_,?_⟩
   . rw[D5 nap]
     refine B5.upd nb _ _ ?_
     rw[D5 nap]
     exact A6
   . rw[D5 nbp]
     exact A6
 rcases bad with b1|⟨⟨r,rfl,r1,r2⟩,bad⟩
 . exact⟨_,rfl,_,_,_,rfl,D3s,.inr ⟨b1 _ (Exc.refl p H),k _ (Exc.refl p H)⟩⟩
 refine⟨_,rfl,_,_,_,rfl,D3s,.inl ⟨⟨r,rfl,r1,r2⟩,?_⟩⟩
 refine⟨_,rfl,p,CC,dx,[],rfl,hp,C.cl,C.n_room,by show 0<1000;decide,?_⟩
 have x1:Exc p H (upd H p (.ins CC dx (putF "room" (.int r) []))):=Exc.upd
 rcases bad with b2|⟨⟨y',rfl⟩,bad⟩
 . exact⟨_,rfl,_,rfl,.inr ⟨b2 _ x1,k _ x1⟩⟩
 obtain rfl:=hy _ rfl
 refine⟨_,rfl,_,rfl,.inl ⟨_,rfl,fun q dq H2 nq s2 eq=>⟨q,dq,[],rfl,eq,rfl,_,rfl,?_⟩⟩⟩
 have hp2:=s2 _ _ (A6 (H:=H) (a:=p) (o:= .ins CC dx (putF "room" (.int r) [])))
 have x2:Exc p H H2:=x1.trans (.of s2)
 refine⟨_,rfl,p,CC,dx,_,rfl,hp2,C.cl,C.n_rule,Nat.lt_of_le_of_lt (lz _ _ _ 0 q0) (by decide),?_⟩
 rcases bad with⟨n3,b3⟩|⟨⟨l,hl⟩,b4⟩
 . refine⟨fun _ _=>False,?_,fun _ _ z=>z.elim⟩
   refine⟨_,rfl,rfl,_,rfl,U5 n3 ?_⟩
   exact⟨_,rfl,_,rfl,_,_,_,rfl,C2r,.inr ⟨b3 _ (x2.trans Exc.upd),k _ (x2.trans Exc.upd)⟩⟩
 let I_:L2.St ->L2.Hp ->Prop:=fun σ' H'=>σ'=[sr p,si r,sR y'.name,some v3,some v4]/\Exc p H H'
 refine⟨I_,?_,?_⟩
 . refine⟨_,rfl,rfl,_,rfl,?_⟩
   rcases hl with⟨rfl,rfl⟩|⟨rfl,l1,l2⟩
   . refine A1f rfl ⟨_,rfl,?_⟩
     exact⟨_,rfl,p,CC,dx,_,rfl,A6,C.cl,C.n_least,Nat.lt_of_le_of_lt (lz _ _ _ 1 (lz _ _ _ 0 q0)) (by decide),rfl,(x2.trans Exc.upd).trans Exc.upd⟩
   . refine U5 (by intro z;cases z) ⟨_,rfl,_,rfl,_,_,_,rfl,C2r,.inl ⟨⟨l,rfl,l1,l2⟩,?_⟩⟩
     exact⟨_,rfl,p,CC,dx,_,rfl,A6,C.cl,C.n_least,Nat.lt_of_le_of_lt (lz _ _ _ 1 (lz _ _ _ 0 q0)) (by decide),rfl,(x2.trans Exc.upd).trans Exc.upd⟩
 rintro σ' H4 ⟨rfl,x4⟩
 clear I_
 exact⟨_,rfl,_,_,_,rfl,D1w,.inr ⟨b4 _ x4,k _ x4⟩⟩
noncomputable def B2e (CC:Addr) (cw:Wy ->Addr):Sp:=fun vs H Q _=>∃c r y l m a b xs ys,vs=[.ref c]/\A0p CC H c r y l m a b xs ys/\∀p dx H',H p=none ->B5 H H' ->H' p=some (.ins (cw y) dx []) ->Q (.ref p) H'
theorem D4e:B7 ["self"] ["self"] (A7 B6r):=scK
theorem C7m{f fW CC CB:Addr}{cw:Wy ->Addr}{fd fdW:FuncData}(F:Fun K "way" "Context.way" B6r f fd)(dA:Def K mg "way_of" ["name"] B2f fW fdW)(dB:sI P w K mg base 1 fW fdW ["name"] (B7f K CB cw))(C:B0d K mg CC):
   sI P w K mg base 2 f fd ["self"] (B2e CC cw):=by
 refine F.okE D4e (fun vs H Q E h=>?_) (fun X cdv A outer s H vs Q E hX hr hx h=>?_)
 . obtain⟨c,r,y,l,m,a,b,xs,ys,rfl,_⟩:=h
   rfl
 subst hX
 obtain⟨c,r,y,l,m,a,b,xs,ys,rfl,⟨⟨dx,e⟩,_,_⟩,k⟩:=h
 refine⟨_,(A5 (B0 (C4 dA dB hr hx (A0 (D3 (pv 0) rfl) A3)))),?_⟩
 exact⟨_,rfl,c,CC,dx,_,_,rfl,e,C.cl,C.n_rule,D0b _ _ _ _ _ _,_,rfl,.inl ⟨y,rfl,k⟩⟩
noncomputable def B4g (CC:Addr):Sp:=fun vs H Q _=>∃c r y l m a b xs ys,vs=[.ref c]/\A0p CC H c r y l m a b xs ys/\Q (.int (l-r+1)) H
theorem D0x:B7 ["self"] ["self"] (A7 B7q):=scK
theorem C6z{f CC:Addr}(F:Fun K "lowest" "Context.lowest" B7q f fd)(C:B0d K mg CC):sI P w K mg base 1 f fd ["self"] (B4g CC):=by
 refine A8.up (F.ok D0x (fun vs H Q E h=>?_) (fun cdv A outer s H vs Q E hr h=>?_))
 . obtain⟨c,r,y,l,m,a,b,xs,ys,rfl,_⟩:=h
   rfl
 obtain⟨c,r,y,l,m,a,b,xs,ys,rfl,⟨⟨dx,e⟩,_,_⟩,k⟩:=h
 refine⟨_,(A5 (B0 (A9 G9 (A9 U2 (D3 (pv 0) rfl) (D3 (pv 0) rfl)) A1))),?_⟩
 exact⟨_,rfl,c,CC,dx,_,_,rfl,e,C.cl,C.n_least,B5f _ _ _ _ _ _,_,rfl,c,CC,dx,_,_,rfl,e,C.cl,C.n_room,A3u _ _ _ _ _ _,_,_,rfl,rfl,_,_,rfl,rfl,k⟩
noncomputable def A6x (CC:Addr):Sp:=fun vs H Q _=>∃c r y l m a b xs ys,vs=[.ref c]/\A0p CC H c r y l m a b xs ys/\∀p,H p=none ->Q (.ref p) (upd H p (.lst xs))
theorem C3c:B7 ["self"] ["self"] (A7 A9h):=scK
theorem C0u{f CC:Addr}(F:Fun K "flags" "Context.flags" A9h f fd)(C:B0d K mg CC)(O:Own mg):sI P w K mg base 1 f fd ["self"] (A6x CC):=by
 refine A8.up (F.ok C3c (fun vs H Q E h=>?_) (fun cdv A outer s H vs Q E hr h=>?_))
 . obtain⟨c,r,y,l,m,a,b,xs,ys,rfl,_⟩:=h
   rfl
 obtain⟨c,r,y,l,m,a,b,xs,ys,rfl,⟨⟨dx,e⟩,ha,_⟩,k⟩:=h
 refine⟨_,(A5 (B0 (Y7 A8a (by rfl) O.list_ boot_list (A0 (D3 (pv 0) rfl) A3)))),?_⟩
 exact⟨_,rfl,c,CC,dx,_,_,rfl,e,C.cl,C.n_risen,A3h _ _ _ _ _ _,a,xs,rfl,.inl (SqL.of ha),k⟩
structure G4t(P:Program)(w:World)(K:Frag)(mg:Str ->Option Value)(base:Heap)(CC CB fI:Addr)(fdI:FuncData):Prop where
 m:Mk K CC fI
 g:sI P w K mg base 3 fI fdI Q39 (A9p K CC CB)
theorem G0h{C x dx:Addr}{H H':Hp}(n1:H x=none)(n2:H dx=none)(ne:dx≠x)(e:Exc x (upd (upd H dx (.own x)) x (.ins C dx [])) H'):B5 H H':=fun b o h=>
 e b o (by rw[D5 (C9 h n1),D5 (C9 h n2)];exact h) (C9 h n1)
theorem J1d{CC CB x dx:Addr}{H:Hp}{Q:VK}{E:XK}{v1 v2 v3 v4:V}{r:Int}{y:Wy}{l m:Int}(n1:H x=none)(n2:H dx=none)(ne:dx≠x)(h1:v1= .int r)(r1:1<=r)(r2:r<=24)(h2:v2= .str y.name)(h3:C1x l v3)(h4:v4= .int m)(m1:0<=m)(m2:m<=60)
   (k:∀a b H',B5 H H' ->A0p CC H' x r y l m a b [] [] ->Q .non H'):A9p K CC CB [.ref x,v1,v2,v3,v4] (upd (upd H dx (.own x)) x (.ins CC dx [])) Q E:=
 ⟨x,dx,v1,v2,v3,v4,rfl,A6,.inl ⟨r,y,l,m,h1,r1,r2,h2,h3,h4,m1,m2,fun a b H' e _ _ c=>k a b H' (G0h n1 n2 ne e) c⟩⟩
noncomputable def A6z (CC:Addr):Sp:=fun vs H Q _=>∃c r y l m a b xs ys,vs=[.ref c]/\A0p CC H c r y l m a b xs ys/\∀p,H p=none ->Q (.ref p) (upd H p (.lst ys))
theorem C3d:B7 ["self"] ["self"] (A7 A9z):=scK
theorem C0c{f CC:Addr}(F:Fun K "traps" "Context.traps" A9z f fd)(C:B0d K mg CC)(O:Own mg):sI P w K mg base 1 f fd ["self"] (A6z CC):=by
 refine A8.up (F.ok C3d (fun vs H Q E h=>?_) (fun cdv A outer s H vs Q E hr h=>?_))
 . obtain⟨c,r,y,l,m,a,b,xs,ys,rfl,_⟩:=h
   rfl
 obtain⟨c,r,y,l,m,a,b,xs,ys,rfl,⟨⟨dx,e⟩,_,hb⟩,k⟩:=h
 refine⟨_,(A5 (B0 (Y7 A8a (by rfl) O.list_ boot_list (A0 (D3 (pv 0) rfl) A3)))),?_⟩
 exact⟨_,rfl,c,CC,dx,_,_,rfl,e,C.cl,C.n_trapped,B0q _ _ _ _ _ _,b,ys,rfl,.inl (SqL.of hb),k⟩
noncomputable abbrev A6c:Stmt:=(G6 (top 4) 0)
theorem D2s:B7 Q40 Q40 (A7 A6c):=scK
theorem C8f{f CT fI:Addr}(F:Fun K "__init__" "Trapped.__init__" A6c f fd)(XI:C9k K CT fI)(hn:findIn K (.ref CT) "signal"=some none):A8 P w K mg base CX0 1 f fd Q40 (B8b CT "signal"):=by
 refine F.ok D2s (fun vs H Q E h=>?_) (fun cdv A outer s H vs Q E hr h=>?_)
 . obtain⟨e,t,v,rfl,_⟩:=h
   rfl
 obtain⟨e,t,v,rfl,he,k⟩:=h
 refine⟨_,(A5 (G3e XI hn (pv 0) (pv 1) rfl)),?_⟩
 exact⟨_,rfl,_,rfl,e,t,rfl,he,fun d nd ne=>k d nd ne⟩
noncomputable abbrev B3u:Stmt:=(G6 (top 35) 5)
noncomputable abbrev A7k:Stmt:=(G6 (top 35) 7)
theorem B3n(r s l m a b:V):(A1s r s l m a b).length=6:=rfl
theorem B7u(r s l m a b v:V):putF "trapped" v (A1s r s l m a b)=A1s r s l m a v:=rfl
theorem B2q(r s l m a b v:V):putF "risen" v (A1s r s l m a b)=A1s r s l m v b:=rfl
noncomputable def hit (ys zs:List Str):Option Str:=ys.find? fun t=>zs.contains t
noncomputable def B2x (K:Frag) (CC CB CT:Addr):Sp:=fun vs H Q E=>∃c r y l m a b,∃(xs ys:List Str) (v:V),vs=[.ref c,v]/\A0p CC H c r y l m a b (xs.map V.str) (ys.map V.str)/\xs.length+100<=1000/\
 ((∃ (p:Addr) (zs:List Str),v= .ref p/\H p=some (.lst (zs.map V.str))/\zs.length<=100/\(∀z∈zs,z∈A0w)/\
     (hit ys zs=none ->∀a' H',Exc c H H' ->H a'=none ->A0p CC H' c r y l m a' b ((V1 (xs++zs)).map V.str) (ys.map V.str) ->Q .non H')/\
     (∀t,hit ys zs=some t ->∀a' d H',Exc c H H' ->H a'=none ->A0p CC H' c r y l m a' b ((V1 (xs++zs)).map V.str) (ys.map V.str) ->H d=none ->H' d=some (.xd [("signal",.str t)]) ->E (.ref CT) (some d) H'))\/
  (C2w K H v/\E (.ref CB) none H))
theorem scRaised:B7 ["self","names","name"] Q22 (A7 A7k):=scK
theorem C8h{f f1 f2 fX CC CB CT:Addr}{fd fd1 fd2 fdX:FuncData}(F:Fun K "raised" "Context.raised" A7k f fd)(dA:Def K mg "need_signals" ["names"] B3a f1 fd1)(dB:sI P w K mg base 1 f1 fd1 ["names"] (B7m K CB))
   (dC:Def K mg "in_order" ["names"] B2w f2 fd2) (dD:sI P w K mg base 1 f2 fd2 ["names"] (B7c K)) (C:B0d K mg CC)
   (gT:mg "Trapped"=some (.ref CT)) (XI:C9k K CT fX) (GX:A8 P w K mg base CX0 1 fX fdX Q40 (B8b CT "signal")) (BX:Binds K fdX Q40 []):sI P w K mg base 3 f fd Q22 (B2x K CC CB CT):=by
 refine F.okE scRaised (fun vs H Q E h=>?_) (fun X cdv A outer s H vs Q E hX hr hx h=>?_)
 . obtain⟨c,r,y,l,m,a,b,xs,ys,v,rfl,_⟩:=h
   rfl
 subst hX
 obtain⟨c,r,y,l,m,a,b,xs,ys,v,rfl,⟨⟨dx,e⟩,ha,hb⟩,lx,h⟩:=h
 refine⟨_,(A4 (U9 (C4 dA dB hr hx (A0 (pv 1) A3))) (A4 (A0c (pv 0) (C4 dC dD hr hx (A0 (A9 B2t (D3 (pv 0) rfl) (pv 1)) A3)) rfl) (A5 (A9u PassesOwn.leaving rfl (A9c (D3 (pv 0) rfl)) (U1 (i:=2) scRaised.nd rfl (Or.inl rfl)) (A5 (D9 (B9 A2j (pv 2) (pv 1) (by rfl)) (A5 (C7w gT XI GX BX hr hx (A0 (pv 2) A3))) C6)))))),?_⟩
 rcases h with⟨p,zs,rfl,hp,lz,hz,k1,k2⟩|⟨bad,k⟩
 . refine⟨_,rfl,_,rfl,.inl ⟨p,zs,rfl,hp,hz,?_⟩⟩
   refine⟨_,rfl,c,CC,dx,_,_,rfl,e,C.cl,C.n_risen,A3h _ _ _ _ _ _,_,rfl,a,p,_,_,rfl,rfl,ha,hp,C7 (by rw[List.length_map,List.length_map];omega),fun q nq=>?_⟩
   have u1:=B5.upd (o:= .lst (xs.map V.str++zs.map V.str)) nq
   refine⟨q,xs++zs,rfl,SqL.of (by rw[A6,List.map_append]),fun a' H1 s1 n1 e1=>?_⟩
   have s2:=u1.trans s1
   refine⟨_,rfl,c,CC,dx,_,rfl,s2 _ _ e,C.cl,C.n_risen,by rw[B3n];decide,?_⟩
   rw[B2q]
   have nbc:b≠c:=V7 hb e (by intro z;cases z)
   have npc:p≠c:=V7 hp e (by intro z;cases z)
   have nac:a'≠c:=V7 e1 (s2 _ _ e) (by intro z;cases z)
   have x2:Exc c H (upd H1 c (.ins CC dx (A1s (.int r) (.str y.name) (.int l) (.int m) (.ref a') (.ref b)))):=(Exc.of s2).trans Exc.upd
   have hb2:(upd H1 c (.ins CC dx (A1s (.int r) (.str y.name) (.int l) (.int m) (.ref a') (.ref b)))) b=some (.lst (ys.map V.str)):=by rw[D5 nbc];exact s2 _ _ hb
   have hp2:(upd H1 c (.ins CC dx (A1s (.int r) (.str y.name) (.int l) (.int m) (.ref a') (.ref b)))) p=some (.lst (zs.map V.str)):=by rw[D5 npc];exact s2 _ _ hp
   have ct:A0p CC (upd H1 c (.ins CC dx (A1s (.int r) (.str y.name) (.int l) (.int m) (.ref a') (.ref b)))) c r y l m a' b ((V1 (xs++zs)).map V.str) (ys.map V.str):=⟨⟨dx,A6⟩,by rw[D5 nac];exact e1,hb2⟩
   refine⟨_,rfl,c,CC,dx,_,_,rfl,A6,C.cl,C.n_trapped,B0q _ _ _ _ _ _,b,rfl,⟨_,SqL.of hb2⟩,?_⟩
   generalize upd H1 c (.ins CC dx (A1s (.int r) (.str y.name) (.int l) (.int m) (.ref a') (.ref b)))=H3 at x2 hb2 hp2 ct ⊢
   refine A5h (xs:=ys.map V.str) (fun i σ H'=>H'=H3/\(∀t∈ys.take i,zs.contains t=false)/\∃v,σ=[sr c,sr p,v]) ⟨rfl,by simp,none,rfl⟩ ?_ ?_ ?_
   . rintro i σ H' _ ⟨rfl,_⟩
     exact SqL.of hb2
   . rintro i x σ H' hi ⟨rfl,ht,v,rfl⟩
     rw[List.getElem?_map] at hi
     obtain⟨t,hti,rfl⟩:=Option.map_eq_some_iff.mp hi
     refine⟨_,rfl,_,rfl,p,_,rfl,.inl (SqL.of hp2),rfl,Y9 _,_,rfl,?_⟩
     have hlt:i<ys.length:=(List.getElem?_eq_some_iff.mp hti).1
     have et:ys.take (i+1)=ys.take i++ [t]:=by
       rw[List.take_succ_eq_append_getElem hlt,(List.getElem?_eq_some_iff.mp hti).2]
     cases hc:zs.contains t with
     | false=>
       rw[show(if false=true then !inV (V.str t) (zs.map V.str) else inV (V.str t) (zs.map V.str))=false by rw[if_neg Bool.false_ne_true,A0y,hc]]
       refine U6 ⟨rfl,fun t' h'=>?_,_,rfl⟩
       rw[et] at h'
       rcases List.mem_append.mp h' with h'|h'
       . exact ht t' h'
       . rw[List.mem_singleton.mp h'];exact hc
     | true=>
       rw[show(if false=true then !inV (V.str t) (zs.map V.str) else inV (V.str t) (zs.map V.str))=true by rw[if_neg Bool.false_ne_true,A0y,hc]]
       obtain⟨dx',hc3⟩:=ct.ins
       refine Y3 ⟨_,rfl,_,rfl,fun d H4 s4 nd e4=>?_⟩
       refine k2 t ?_ a' d H4 (x2.trans (.of s4)) ((u1.free n1)) (ct.same s4) (x2.none hc3 nd) e4
       unfold hit
       rw[List.find?_eq_some_iff_append]
       refine⟨hc,ys.take i,ys.drop (i+1),?_,fun t' h'=>by rw[ht t' h'];rfl⟩
       have:=List.take_append_drop (i+1) ys
       rw[et] at this
       rw[List.append_assoc] at this
       exact this.symm
   . rintro σ H' ⟨rfl,ht,v,rfl⟩
     refine k1 ?_ a' _ x2 (u1.free n1) ct
     unfold hit
     rw[List.find?_eq_none]
     rw[List.length_map,List.take_length] at ht
     intro t hm
     rw[ht t hm]
     exact Bool.false_ne_true
 exact⟨_,rfl,_,rfl,.inr ⟨bad,k⟩⟩
noncomputable def C1z (K:Frag) (CC CB:Addr):Sp:=fun vs H Q E=>∃c r y l m a b xs ys v,vs=[.ref c,v]/\A0p CC H c r y l m a b xs ys/\
 ((∃(p:Addr) (zs:List Str),v= .ref p/\H p=some (.lst (zs.map V.str))/\(∀z∈zs,z∈A0w)/\∀b' H',Exc c H H' ->H b'=none ->A0p CC H' c r y l m a b' xs ((V1 zs).map V.str) ->Q .non H')\/(C2w K H v/\E (.ref CB) none H))
theorem G7c:B7 Q22 Q22 (A7 B3u):=scK
theorem G0d{f f1 f2 CC CB:Addr}(F:Fun K "trap" "Context.trap" B3u f fd)(dA:Def K mg "need_signals" ["names"] B3a f1 fd1)(dB:sI P w K mg base 1 f1 fd1 ["names"] (B7m K CB))
   (dC:Def K mg "in_order" ["names"] B2w f2 fd2) (dD:sI P w K mg base 1 f2 fd2 ["names"] (B7c K)) (C:B0d K mg CC):sI P w K mg base 2 f fd Q22 (C1z K CC CB):=by
 refine F.okE G7c (fun vs H Q E h=>?_) (fun X cdv A outer s H vs Q E hX hr hx h=>?_)
 . obtain⟨c,r,y,l,m,a,b,xs,ys,v,rfl,_⟩:=h
   rfl
 subst hX
 obtain⟨c,r,y,l,m,a,b,xs,ys,v,rfl,⟨⟨dx,e⟩,ha,hb⟩,h⟩:=h
 refine⟨_,(A4 (U9 (C4 dA dB hr hx (A0 (pv 1) A3))) (A5 (A0c (pv 0) (C4 dC dD hr hx (A0 (pv 1) A3)) rfl))),?_⟩
 rcases h with⟨p,zs,rfl,hp,hz,k⟩|⟨bad,k⟩
 . refine⟨_,rfl,_,rfl,.inl ⟨p,zs,rfl,hp,hz,?_⟩⟩
   refine⟨_,rfl,p,zs,rfl,SqL.of hp,fun b' H1 s1 n1 e1=>?_⟩
   refine⟨_,rfl,c,CC,dx,_,rfl,s1 _ _ e,C.cl,C.n_trapped,by rw[B3n];decide,?_⟩
   rw[B7u]
   have nac:a≠c:=V7 ha e (by intro z;cases z)
   have nbc:b'≠c:=V7 e1 (s1 _ _ e) (by intro z;cases z)
   exact k b' _ ((Exc.of s1).trans Exc.upd) n1 ⟨⟨dx,A6⟩,by rw[D5 nac];exact s1 _ _ ha,by rw[D5 nbc];exact e1⟩
 exact⟨_,rfl,_,rfl,.inr ⟨bad,k⟩⟩
noncomputable abbrev A9t:Stmt:=(G6 (top 35) 4)
noncomputable def A7p (CC:Addr):Sp:=fun vs H Q _=>∃c r y l m a b xs ys,vs=[.ref c]/\A0p CC H c r y l m a b xs ys/\∀a' H',Exc c H H' ->H a'=none ->A0p CC H' c r y l m a' b [] ys ->Q .non H'
theorem C2x:B7 ["self"] ["self"] (A7 A9t):=scK
theorem C0a{f CC:Addr}(F:Fun K "clear" "Context.clear" A9t f fd)(C:B0d K mg CC):sI P w K mg base 1 f fd ["self"] (A7p CC):=by
 refine A8.up (F.ok C2x (fun vs H Q E h=>?_) (fun cdv A outer s H vs Q E hr h=>?_))
 . obtain⟨c,r,y,l,m,a,b,xs,ys,rfl,_⟩:=h
   rfl
 obtain⟨c,r,y,l,m,a,b,xs,ys,rfl,⟨⟨dx,e⟩,ha,hb⟩,k⟩:=h
 refine⟨_,(A5 (A0c (pv 0) (G4 A3) rfl)),?_⟩
 refine⟨Nat.zero_le _,fun p np=>?_⟩
 have u:=B5.upd (o:= .lst []) np
 refine⟨_,rfl,c,CC,dx,_,rfl,u _ _ e,C.cl,C.n_risen,by rw[B3n];decide,?_⟩
 rw[B2q]
 have nac:p≠c:=Ne.symm (C9 e np)
 have nbc:b≠c:=V7 hb e (by intro z;cases z)
 exact k p _ ((Exc.of u).trans Exc.upd) np ⟨⟨dx,A6⟩,by rw[D5 nac];exact A6,by rw[D5 nbc];exact u _ _ hb⟩
noncomputable def Wy.goes (y:Wy) (s last part:Int):Bool:=match y with
 | .down=>false
 | .up=>true
 | .floor=>decide (V.int s=V.int 1)
 | .ceiling=>decide (V.int s=V.int 0)
 | .halfUp=>decide (part>=2)
 | .halfDown=>decide (V.int part=V.int 3)
 | .halfEven=>if decide (V.int part=V.int 3)=true then true else if decide (V.int part=V.int 2)=true then decide (V.int (last % 2)=V.int 1) else false
 | .fiveUp=>inV (.int last) [.int 0,.int 5]
noncomputable def Wy.toEnd (y:Wy) (s:Int):Bool:=match y with
 | .down=>false
 | .up=>true
 | .floor=>decide (V.int s=V.int 1)
 | .ceiling=>decide (V.int s=V.int 0)
 | .halfUp=>true
 | .halfDown=>true
 | .halfEven=>true
 | .fiveUp=>false
noncomputable def A4e (y:Wy):Sp:=fun vs H Q _=>∃p s l t,vs=[.ref p,.int s,.int l,.int t]/\∀H',B5 H H' ->Q (.bl (y.goes s l t)) H'
noncomputable def A2g (y:Wy):Sp:=fun vs H Q _=>∃p s,vs=[.ref p,.int s]/\∀H',B5 H H' ->Q (.bl (y.toEnd s)) H'
noncomputable def J2s (P:Program) (w:World) (K:Frag) (mg:Str ->Option Value) (base:Heap) (C:Addr) (y:Wy):Prop:=Has P w K mg base C "goes_up" 1 Q4 (A4e y)
noncomputable def J0t (P:Program) (w:World) (K:Frag) (mg:Str ->Option Value) (base:Heap) (C:Addr) (y:Wy):Prop:=Has P w K mg base C "to_end" 1 Q5 (A2g y)
noncomputable abbrev sU0:Stmt:=(G6 (top 24) 1)
theorem J5n:B7 Q4 Q4 (A7 sU0):=scK
theorem J0w(F:Fun K "goes_up" "Down.goes_up" sU0 f fd):sI P w K mg base 1 f fd Q4 (A4e .down):=by
 refine A8.up (F.ok J5n (fun vs H Q E h=>?_) (fun cdv A outer s H vs Q E hr h=>?_))
 . obtain⟨p,z,l,t,rfl,_⟩:=h
   rfl
 obtain⟨p,z,l,t,rfl,k⟩:=h
 refine⟨_,(A5 (B0 A2a)),?_⟩
 exact k H (B5.refl H)
noncomputable abbrev sT0:Stmt:=(G6 (top 24) 2)
theorem J5p:B7 Q5 Q5 (A7 sT0):=scK
theorem J2j(F:Fun K "to_end" "Down.to_end" sT0 f fd):sI P w K mg base 1 f fd Q5 (A2g .down):=by
 refine A8.up (F.ok J5p (fun vs H Q E h=>?_) (fun cdv A outer s H vs Q E hr h=>?_))
 . obtain⟨p,z,rfl,_⟩:=h
   rfl
 obtain⟨p,z,rfl,k⟩:=h
 refine⟨_,(A5 (B0 A2a)),?_⟩
 exact k H (B5.refl H)
noncomputable abbrev sU1:Stmt:=(G6 (top 25) 1)
theorem J7f:B7 Q4 Q4 (A7 sU1):=scK
theorem J2y(F:Fun K "goes_up" "Up.goes_up" sU1 f fd):sI P w K mg base 1 f fd Q4 (A4e .up):=by
 refine A8.up (F.ok J7f (fun vs H Q E h=>?_) (fun cdv A outer s H vs Q E hr h=>?_))
 . obtain⟨p,z,l,t,rfl,_⟩:=h
   rfl
 obtain⟨p,z,l,t,rfl,k⟩:=h
 refine⟨_,(A5 (B0 A2a)),?_⟩
 exact k H (B5.refl H)
noncomputable abbrev sT1:Stmt:=(G6 (top 25) 2)
theorem J6v:B7 Q5 Q5 (A7 sT1):=scK
theorem J1s(F:Fun K "to_end" "Up.to_end" sT1 f fd):sI P w K mg base 1 f fd Q5 (A2g .up):=by
 refine A8.up (F.ok J6v (fun vs H Q E h=>?_) (fun cdv A outer s H vs Q E hr h=>?_))
 . obtain⟨p,z,rfl,_⟩:=h
   rfl
 obtain⟨p,z,rfl,k⟩:=h
 refine⟨_,(A5 (B0 A2a)),?_⟩
 exact k H (B5.refl H)
noncomputable abbrev sU2:Stmt:=(G6 (top 26) 1)
theorem J5z:B7 Q4 Q4 (A7 sU2):=scK
theorem J1c(F:Fun K "goes_up" "Floor.goes_up" sU2 f fd):sI P w K mg base 1 f fd Q4 (A4e .floor):=by
 refine A8.up (F.ok J5z (fun vs H Q E h=>?_) (fun cdv A outer s H vs Q E hr h=>?_))
 . obtain⟨p,z,l,t,rfl,_⟩:=h
   rfl
 obtain⟨p,z,l,t,rfl,k⟩:=h
 refine⟨_,(A5 (B0 (G3 D4 (pv 1) A1 (B8 _)))),?_⟩
 exact⟨_,rfl,rfl,k H (B5.refl H)⟩
noncomputable abbrev sT2:Stmt:=(G6 (top 26) 2)
theorem J5r:B7 Q5 Q5 (A7 sT2):=scK
theorem J1g(F:Fun K "to_end" "Floor.to_end" sT2 f fd):sI P w K mg base 1 f fd Q5 (A2g .floor):=by
 refine A8.up (F.ok J5r (fun vs H Q E h=>?_) (fun cdv A outer s H vs Q E hr h=>?_))
 . obtain⟨p,z,rfl,_⟩:=h
   rfl
 obtain⟨p,z,rfl,k⟩:=h
 refine⟨_,(A5 (B0 (G3 D4 (pv 1) A1 (B8 _)))),?_⟩
 exact⟨_,rfl,rfl,k H (B5.refl H)⟩
noncomputable abbrev sU3:Stmt:=(G6 (top 27) 1)
theorem J6j:B7 Q4 Q4 (A7 sU3):=scK
theorem J2a(F:Fun K "goes_up" "Ceiling.goes_up" sU3 f fd):sI P w K mg base 1 f fd Q4 (A4e .ceiling):=by
 refine A8.up (F.ok J6j (fun vs H Q E h=>?_) (fun cdv A outer s H vs Q E hr h=>?_))
 . obtain⟨p,z,l,t,rfl,_⟩:=h
   rfl
 obtain⟨p,z,l,t,rfl,k⟩:=h
 refine⟨_,(A5 (B0 (G3 D4 (pv 1) A1 (B8 _)))),?_⟩
 exact⟨_,rfl,rfl,k H (B5.refl H)⟩
noncomputable abbrev sT3:Stmt:=(G6 (top 27) 2)
theorem J7k:B7 Q5 Q5 (A7 sT3):=scK
theorem J1z(F:Fun K "to_end" "Ceiling.to_end" sT3 f fd):sI P w K mg base 1 f fd Q5 (A2g .ceiling):=by
 refine A8.up (F.ok J7k (fun vs H Q E h=>?_) (fun cdv A outer s H vs Q E hr h=>?_))
 . obtain⟨p,z,rfl,_⟩:=h
   rfl
 obtain⟨p,z,rfl,k⟩:=h
 refine⟨_,(A5 (B0 (G3 D4 (pv 1) A1 (B8 _)))),?_⟩
 exact⟨_,rfl,rfl,k H (B5.refl H)⟩
noncomputable abbrev sU4:Stmt:=(G6 (top 28) 1)
theorem J7b:B7 Q4 Q4 (A7 sU4):=scK
theorem J0y(F:Fun K "goes_up" "HalfUp.goes_up" sU4 f fd):sI P w K mg base 1 f fd Q4 (A4e .halfUp):=by
 refine A8.up (F.ok J7b (fun vs H Q E h=>?_) (fun cdv A outer s H vs Q E hr h=>?_))
 . obtain⟨p,z,l,t,rfl,_⟩:=h
   rfl
 obtain⟨p,z,l,t,rfl,k⟩:=h
 refine⟨_,(A5 (B0 (G3 C4y (pv 3) A1 (B8 _)))),?_⟩
 exact⟨_,rfl,_,_,rfl,rfl,k H (B5.refl H)⟩
noncomputable abbrev sT4:Stmt:=(G6 (top 28) 2)
theorem J6m:B7 Q5 Q5 (A7 sT4):=scK
theorem J1r(F:Fun K "to_end" "HalfUp.to_end" sT4 f fd):sI P w K mg base 1 f fd Q5 (A2g .halfUp):=by
 refine A8.up (F.ok J6m (fun vs H Q E h=>?_) (fun cdv A outer s H vs Q E hr h=>?_))
 . obtain⟨p,z,rfl,_⟩:=h
   rfl
 obtain⟨p,z,rfl,k⟩:=h
 refine⟨_,(A5 (B0 A2a)),?_⟩
 exact k H (B5.refl H)
noncomputable abbrev sU5:Stmt:=(G6 (top 29) 1)
theorem J6r:B7 Q4 Q4 (A7 sU5):=scK
theorem J3f(F:Fun K "goes_up" "HalfDown.goes_up" sU5 f fd):sI P w K mg base 1 f fd Q4 (A4e .halfDown):=by
 refine A8.up (F.ok J6r (fun vs H Q E h=>?_) (fun cdv A outer s H vs Q E hr h=>?_))
 . obtain⟨p,z,l,t,rfl,_⟩:=h
   rfl
 obtain⟨p,z,l,t,rfl,k⟩:=h
 refine⟨_,(A5 (B0 (G3 D4 (pv 3) A1 (B8 _)))),?_⟩
 exact⟨_,rfl,rfl,k H (B5.refl H)⟩
noncomputable abbrev sT5:Stmt:=(G6 (top 29) 2)
theorem J6n:B7 Q5 Q5 (A7 sT5):=scK
theorem J1y(F:Fun K "to_end" "HalfDown.to_end" sT5 f fd):sI P w K mg base 1 f fd Q5 (A2g .halfDown):=by
 refine A8.up (F.ok J6n (fun vs H Q E h=>?_) (fun cdv A outer s H vs Q E hr h=>?_))
 . obtain⟨p,z,rfl,_⟩:=h
   rfl
 obtain⟨p,z,rfl,k⟩:=h
 refine⟨_,(A5 (B0 A2a)),?_⟩
 exact k H (B5.refl H)
noncomputable abbrev sU6:Stmt:=(G6 (top 30) 1)
theorem J6x:B7 Q4 Q4 (A7 sU6):=scK
theorem J1h(F:Fun K "goes_up" "HalfEven.goes_up" sU6 f fd):sI P w K mg base 1 f fd Q4 (A4e .halfEven):=by
 refine A8.up (F.ok J6x (fun vs H Q E h=>?_) (fun cdv A outer s H vs Q E hr h=>?_))
 . obtain⟨p,z,l,t,rfl,_⟩:=h
   rfl
 obtain⟨p,z,l,t,rfl,k⟩:=h
 refine⟨_,(A5 (B0 (C0j (G3 D4 (pv 3) A1 (B8 _)) (A1d (A2s (G3 D4 (pv 3) A1 (B8 _)) (A1d (G3 D4 (A9 U3 (pv 2) A1) A1 (B8 _)))))))),?_⟩
 have k:=k H (B5.refl H)
 unfold Wy.goes at k
 refine⟨_,rfl,rfl,_,rfl,?_⟩
 cases e:decide (V.int t=V.int 3) with
 |true=>rw[e] at k;exact Y3 k
 | false=>
   rw[e] at k
   refine U6 ⟨_,rfl,rfl,_,rfl,?_⟩
   cases e2:decide (V.int t=V.int 2) with
   |true=>rw[e2] at k;exact Y3 ⟨_,rfl,_,_,rfl,rfl,(by decide:(0:Int)<2),rfl,k⟩
   |false=>rw[e2] at k;exact U6 k
noncomputable abbrev sT6:Stmt:=(G6 (top 30) 2)
theorem J7d:B7 Q5 Q5 (A7 sT6):=scK
theorem J2c(F:Fun K "to_end" "HalfEven.to_end" sT6 f fd):sI P w K mg base 1 f fd Q5 (A2g .halfEven):=by
 refine A8.up (F.ok J7d (fun vs H Q E h=>?_) (fun cdv A outer s H vs Q E hr h=>?_))
 . obtain⟨p,z,rfl,_⟩:=h
   rfl
 obtain⟨p,z,rfl,k⟩:=h
 refine⟨_,(A5 (B0 A2a)),?_⟩
 exact k H (B5.refl H)
noncomputable abbrev sU7:Stmt:=(G6 (top 31) 1)
theorem J6b:B7 Q4 Q4 (A7 sU7):=scK
theorem J2u(F:Fun K "goes_up" "FiveUp.goes_up" sU7 f fd):sI P w K mg base 1 f fd Q4 (A4e .fiveUp):=by
 refine A8.up (F.ok J6b (fun vs H Q E h=>?_) (fun cdv A outer s H vs Q E hr h=>?_))
 . obtain⟨p,z,l,t,rfl,_⟩:=h
   rfl
 obtain⟨p,z,l,t,rfl,k⟩:=h
 refine⟨_,(A5 (B0 (G3 A2j (pv 2) (U4 (A0 A1 (A0 A1 A3))) (by rfl)))),?_⟩
 exact⟨_,rfl,C7 (by decide),fun q nq=>⟨q,_,rfl,.inr (SqT.of A6),rfl,rfl,k _ (B5.upd nq)⟩⟩
noncomputable abbrev sT7:Stmt:=(G6 (top 31) 2)
theorem J5s:B7 Q5 Q5 (A7 sT7):=scK
theorem J0u(F:Fun K "to_end" "FiveUp.to_end" sT7 f fd):sI P w K mg base 1 f fd Q5 (A2g .fiveUp):=by
 refine A8.up (F.ok J5s (fun vs H Q E h=>?_) (fun cdv A outer s H vs Q E hr h=>?_))
 . obtain⟨p,z,rfl,_⟩:=h
   rfl
 obtain⟨p,z,rfl,k⟩:=h
 refine⟨_,(A5 (B0 A2a)),?_⟩
 exact k H (B5.refl H)
noncomputable abbrev A8h:Stmt:=(top 48)
noncomputable abbrev A5r:Stmt:=(top 49)
noncomputable abbrev A2m:Stmt:=(top 50)
noncomputable abbrev A7x:Stmt:=(top 51)
noncomputable abbrev A8v:Stmt:=(top 52)
noncomputable abbrev B2u:Stmt:=(top 53)
noncomputable abbrev B3h:Stmt:=(top 54)
noncomputable abbrev A9b:Stmt:=(top 55)
noncomputable abbrev A7y:Stmt:=(top 56)
noncomputable abbrev A1v:Stmt:=(top 57)
structure Cv where
 r:Int
 y:Wy
 l:Int
 m:Int
structure Cv.Ok(c:Cv):Prop where
 r1:1<=c.r
 r2:c.r<=24
 l1: -60<=c.l
 l2:c.l<=0
 m1:0<=c.m
 m2:c.m<=60
noncomputable def A4y (ideal:Int):Nat ->Int ->Int ->Int×Int
 |0,f,p=>(f,p)
 |n+1,f,p=>if f % 10=0 then A4y ideal n (f/10) (p+1) else(f,p)
noncomputable def Z7 (ideal f p:Int):Int×Int:=A4y ideal (ideal-p).toNat f p
theorem B1z{ideal f p:Int}(h:p<ideal)(z:f % 10=0):Z7 ideal f p=Z7 ideal (f/10) (p+1):=by
 unfold Z7
 obtain⟨n,hn⟩:∃n,(ideal-p).toNat=n+1:=⟨(ideal-p).toNat-1,by omega⟩
 rw[hn,show(ideal-(p+1)).toNat=n by omega]
 show(if f % 10=0 then A4y ideal n (f/10) (p+1) else(f,p))=_
 rw[if_pos z]
theorem B2m{ideal f p:Int}(h:¬(p<ideal/\f % 10=0)):Z7 ideal f p=(f,p):=by
 unfold Z7
 by_cases q:p<ideal
 . obtain⟨n,hn⟩:∃n,(ideal-p).toNat=n+1:=⟨(ideal-p).toNat-1,by omega⟩
   rw[hn]
   show(if f % 10=0 then A4y ideal n (f/10) (p+1) else(f,p))=_
   rw[if_neg fun z=>h ⟨q,z⟩]
 rw[show(ideal-p).toNat=0 by omega]
 rfl
noncomputable def V0 (f:Int):Int:=((Str.ofString (toString f)).length:Nat)
noncomputable def upI (y:Wy) (s wh pt:Int):Int:=if(if pt=0 then false else y.goes s (wh % 10) pt)=true then wh+1 else wh
noncomputable def A5f (r f q:Int):Int×Int:=if f=A2 r then(f/10,q+1) else(f,q)
noncomputable def V9 (c:Cv) (s wh pt q ideal:Int):Int×Int:=if pt=0 then Z7 ideal wh q else A5f c.r (upI c.y s wh pt) q
noncomputable def A0q (m f p:Int):Bool:=if f=0 then false else decide (p+V0 f-1>m)
noncomputable def B0b (c:Cv) (s:Int):Nm:=if c.y.toEnd s=true then⟨.end_,s,0,0⟩ else⟨.plain,s,A2 c.r-1,c.m-c.r+1⟩
noncomputable def Y1 (pt:Int) (cut:Bool):List Str:=if pt=0 then(if cut=true then ["cut"] else []) else ["off","cut"]
noncomputable def A1a (l L pt:Int):List Str:=if L>=l then [] else if pt=0 then ["faint"] else ["sunk","faint"]
noncomputable def A3b (c:Cv) (s wh pt L q ideal:Int):Nm×List Str:=
 if A0q c.m (V9 c s wh pt q ideal).1 (V9 c s wh pt q ideal).2=true then(B0b c s,Q50)
 else(⟨.plain,s,(V9 c s wh pt q ideal).1,(V9 c s wh pt q ideal).2⟩,Y1 pt (decide ((V9 c s wh pt q ideal).2>ideal))++A1a c.l L pt)
noncomputable def A3t (a b:Int):Int:=if b>a then b else a
noncomputable def B4k (a b:Int):Int:=if b<a then b else a
noncomputable def Y2 (CC:Addr) (H:Hp) (c:Addr) (v:Cv) (a b:Addr) (xs ys:List Str):Prop:=A0p CC H c v.r v.y v.l v.m a b (xs.map V.str) (ys.map V.str)
theorem Y2.same{CC:Addr}{H H':Hp}{c:Addr}{v:Cv}{a b:Addr}{xs ys:List Str}(h:Y2 CC H c v a b xs ys)(e:B5 H H'):Y2 CC H' c v a b xs ys:=A0p.same h e
theorem B0s{CN:Addr}{H:Hp}{Q:VK}{E:XK}{k s f p:V}(h:∀n H',H n=none ->B5 H H' ->A2b CN H' n k s f p ->Q (.ref n) H'):
   ∀x dx,H x=none ->H dx=none ->dx≠x ->B8g CN (.ref x::([k,s,f,p]++ [])) (upd (upd H dx (.own x)) x (.ins CN dx [])) (fun v H2=>v= .non/\Q (.ref x) H2) E:=by
 intro x dx nx nd ne
 refine⟨x,dx,k,s,f,p,rfl,A6,fun H' e kp=>⟨rfl,h x H' nx (fun b o z=>?_) ⟨dx,e⟩⟩⟩
 refine kp b o ?_ (C9 z nx)
 rw[D5 (C9 z nx),D5 (C9 z nd)]
 exact z
structure A6n(P:Program)(w:World)(K:Frag)(mg:Str ->Option Value)(base:Heap)(CC CB CT CW:Addr)(cw:Wy ->Addr):Prop where
 c:B0d K mg CC
 way:Has P w K mg base CC "way" 2 ["self"] (B2e CC cw)
 low:Has P w K mg base CC "lowest" 1 ["self"] (B4g CC)
 raised:Has P w K mg base CC "raised" 3 Q22 (B2x K CC CB CT)
 wc:∀y:Wy,B1h K mg y.cls (cw y) CW
 u:∀y:Wy,J2s P w K mg base (cw y) y
 e:∀y:Wy,J0t P w K mg base (cw y) y
noncomputable def B5d (CN:Addr):Sp:=fun vs H Q _=>∃i s f p:Int,vs=[.int i,.int s,.int f,.int p]/\∀n H',H n=none ->B5 H H' ->V6 CN H' n ⟨.plain,s,(Z7 i f p).1,(Z7 i f p).2⟩ ->Q (.ref n) H'
theorem scNearest:B7 Q23 Q23 (A7 A5r):=scK
theorem C2p{f fI CN:Addr}{fd fdI:FuncData}(D:Def K mg "nearest_to" Q23 A5r f fd)(N:Num K mg CN)(M:A6v P w K mg base CN fI fdI):sI P w K mg base 3 f fd Q23 (B5d CN):=by
 refine A8.up (D.F.ok scNearest (fun vs H Q E h=>?_) (fun cdv A outer s H vs Q E hr h=>?_))
 . obtain⟨i,s,f,p,rfl,_⟩:=h
   rfl
 obtain⟨i,sg,fg,pw,rfl,k⟩:=h
 have hx:U0 (A1j CX0 P w K mg base Q23 "nearest_to" (A7 A5r) f cdv A outer s H E).nox EKF:=Y0
 refine⟨_,(A4 (A1y PassesOwn.never (PW.pt (A4b (B9 A6u (pv 3) (pv 0) (B8 _)) (A2e (B9 D4 (A9 U3 (pv 2) A1) A1 (B8 _))))) (A4 (D0 (i:=2) scNearest.nd rfl (Or.inl rfl) (A9 D6 (pv 2) A1)) (A5 (D0 (i:=3) scNearest.nd rfl (Or.inl rfl) (A9 G9 (pv 3) A1))))) (A5 (B0 (A3n M.m (A8.up M.g) hr N.g M.b .nil hx (A0 C5 (A0 (pv 1) (A0 (pv 2) (A0 (pv 3) A3)))))))),?_⟩
 have d10:(0:Int)<10/\(10:Int).natAbs.log2<9000:=⟨by decide,by decide+kernel⟩
 refine A1b (fun σ H2=>H2=H/\∃f p:Int,Z7 i f p=Z7 i fg pw/\σ=[si i,si sg,si f,si p]) (fun σ _=>match σ with| [_,_,_,some (.int p)]=>(i-p).toNat|_=>0) ?_ ?_ ?_
 . exact⟨rfl,fg,pw,rfl,rfl⟩
 . rintro σ H2 ⟨rfl,f,p,e,rfl⟩
   have stop:¬(p<i/\f % 10=0) ->∀n H',H2 n=none ->B5 H2 H' ->A2b CN H' n (.str "plain") (.int sg) (.int f) (.int p) ->Q (.ref n) H':=fun h n H' nn sm num=>by
     refine k n H' nn sm ?_
     rw[<-e,B2m h]
     exact num
   refine⟨_,rfl,_,rfl,_,_,rfl,rfl,_,rfl,G8 (fun h1=>?_) (fun h1=>U6 ⟨_,rfl,_,rfl,_,rfl,B0s (stop fun q=>h1 q.1)⟩)⟩
   refine⟨_,rfl,_,_,rfl,rfl,d10.1,rfl,_,rfl,G8 (fun h2=>?_) (fun h2=>⟨_,rfl,_,rfl,_,rfl,B0s (stop fun q=>h2 (congrArg V.int q.2))⟩)⟩
   have h1:p<i:=h1
   have h2:f % 10=0:=by injection h2
   refine⟨_,rfl,_,_,rfl,rfl,d10,_,rfl,_,_,rfl,rfl,⟨rfl,f/10,p+1,(B1z h1 h2).symm.trans e,rfl⟩,?_⟩
   show(i-(p+1)).toNat<(i-p).toNat
   omega
 rintro σ H2 Q1 Q2 hQ ⟨v,e,v2,e2,a,b,e3,e4,c,e5,q⟩
 refine⟨v,e,v2,e2,a,b,e3,e4,c,e5,?_⟩
 cases c with
 |false=>exact U6 (hQ _ _ (by simpa using q))
 | true=>
   have q:_:=q
   rw[if_pos rfl] at q ⊢
   obtain⟨v3,e6,a2,b2,e7,e8,e9,e10,e11,e12,q⟩:=q
   exact⟨v3,e6,a2,b2,e7,e8,e9,e10,e11,e12,hQ _ _ q⟩
noncomputable def B0u (CC:Addr):Sp:=fun vs H Q _=>∃c v a b xs ys p,∃s wh pt:Int,vs=[.ref c,.int s,.ref p]/\Y2 CC H c v a b xs ys/\H p=some (.tup [.int wh,.int pt])/\∀H',B5 H H' ->Q (.int (upI v.y s wh pt)) H'
theorem C0b:B7 Q24 Q24 (A7 A2m):=scK
theorem B8n{f CC CB CT CW:Addr}{cw:Wy ->Addr}(D:Def K mg "neighbour" Q24 A2m f fd)(C:A6n P w K mg base CC CB CT CW cw):sI P w K mg base 3 f fd Q24 (B0u CC):=by
 refine A8.up (D.F.ok C0b (fun vs H Q E h=>?_) (fun cdv A outer s H vs Q E hr h=>?_))
 . obtain⟨c,v,a,b,xs,ys,p,sg,wh,pt,rfl,_⟩:=h
   rfl
 obtain⟨c,v,a,b,xs,ys,p,sg,wh,pt,rfl,hc,hp,k⟩:=h
 have hx:U0 (A1j CX0 P w K mg base Q24 "neighbour" (A7 A2m) f cdv A outer s H E).nox EKF:=Y0
 obtain⟨fW,fdW,mW,gW,bW⟩:=C.way
 obtain⟨fU,fdU,mU,gU,bU⟩:=C.u v.y
 refine⟨_,(A4 (D9 (PW.pt (A4b (B9 B0x (D7 D8 (pv 2) A1 (fun _ _=>rfl)) A1 (B8 _)) (A2e (V5 (A8c (A0t (pv 0) C.c.cl mW gW hr bW .nil hx) (C.wc v.y).cl mU gU hr bU .nil hx (A0 (pv 1) (A0 (A9 U3 (D7 D8 (pv 2) A1 (fun _ _=>rfl)) A1) (A0 (D7 D8 (pv 2) A1 (fun _ _=>rfl)) A3)))))))) (A5 (B0 (A9 G9 (D7 D8 (pv 2) A1 (fun _ _=>rfl)) A1))) C6) (A5 (B0 (D7 D8 (pv 2) A1 (fun _ _=>rfl))))),?_⟩
 obtain⟨⟨dx,e⟩,_,_⟩:=id hc
 unfold upI at k
 refine⟨_,rfl,p,_,_,_,rfl,rfl,SqT.of hp,C0 (j:=1) rfl,rfl,_,rfl,?_⟩
 by_cases h0:pt=0
 . subst h0
   rw[if_pos rfl,if_neg Bool.false_ne_true] at k
   exact B0z rfl (U6 ⟨_,rfl,p,_,_,_,rfl,rfl,SqT.of hp,C0 (j:=0) rfl,k H (B5.refl H)⟩)
 rw[if_neg h0] at k
 rw[decide_eq_false (fun q=>h0 (by injection q):¬V.int pt=V.int 0)]
 refine Y3 ⟨_,rfl,c,dx,_,rfl,e,A6y _ _ _ _ _ _,c,v.r,v.y,v.l,v.m,a,b,_,_,rfl,hc,fun q dq H1 nq s1 eq=>?_⟩
 refine⟨q,dq,_,rfl,eq,rfl,_,rfl,_,rfl,p,_,_,_,rfl,rfl,SqT.of (s1 _ _ hp),C0 (j:=0) rfl,_,_,rfl,rfl,(by decide:(0:Int)<10),_,rfl,p,_,_,_,rfl,rfl,SqT.of (s1 _ _ hp),C0 (j:=1) rfl,q,sg,wh % 10,pt,rfl,fun H2 s2=>⟨_,rfl,?_⟩⟩
 have s3:=s1.trans s2
 cases g:v.y.goes sg (wh % 10) pt with
 | true=>
   rw[g,if_pos rfl] at k
   exact Y3 ⟨_,rfl,p,_,_,_,rfl,rfl,SqT.of (s3 _ _ hp),C0 (j:=0) rfl,_,_,rfl,rfl,k H2 s3⟩
 | false=>
   rw[g,if_neg Bool.false_ne_true] at k
   exact U6 ⟨_,rfl,p,_,_,_,rfl,rfl,SqT.of (s3 _ _ hp),C0 (j:=0) rfl,k H2 s3⟩
noncomputable def C0h (CN CC:Addr):Sp:=fun vs H Q _=>∃c v a b xs ys,∃s f q:Int,vs=[.ref c,.int s,.int f,.int q]/\Y2 CC H c v a b xs ys/\v.Ok/\∀n H',H n=none ->B5 H H' ->V6 CN H' n ⟨.plain,s,(A5f v.r f q).1,(A5f v.r f q).2⟩ ->Q (.ref n) H'
theorem D1j:B7 Q25 Q25 (A7 A7x):=scK
theorem C8m{f f1 fI CN CC CB CT CW:Addr}{cw:Wy ->Addr}{fd fd1 fdI:FuncData}(D:Def K mg "within_room" Q25 A7x f fd)(dA:Def K mg "ten_to" ["count"] A1k f1 fd1)(dB:sI P w K mg base 2 f1 fd1 ["count"] A1t)(C:A6n P w K mg base CC CB CT CW cw)(N:Num K mg CN)(M:A6v P w K mg base CN fI fdI):
   sI P w K mg base 3 f fd Q25 (C0h CN CC):=by
 refine A8.up (D.F.ok D1j (fun vs H Q E h=>?_) (fun cdv A outer s H vs Q E hr h=>?_))
 . obtain⟨c,v,a,b,xs,ys,sg,f,q,rfl,_⟩:=h
   rfl
 obtain⟨c,v,a,b,xs,ys,sg,fg,q,rfl,hc,ok,k⟩:=h
 have hx:U0 (A1j CX0 P w K mg base Q25 "within_room" (A7 A7x) f cdv A outer s H E).nox EKF:=Y0
 refine⟨_,(A4 (D9 (B9 D4 (pv 2) (C4 dA dB hr hx (A0 (D3 (pv 0) rfl) A3)) (B8 _)) (A5 (B0 (A3n M.m (A8.up M.g) hr N.g M.b .nil hx (A0 C5 (A0 (pv 1) (A0 (A9 D6 (pv 2) A1) (A0 (A9 G9 (pv 3) A1) A3))))))) C6) (A5 (B0 (A3n M.m (A8.up M.g) hr N.g M.b .nil hx (A0 C5 (A0 (pv 1) (A0 (pv 2) (A0 (pv 3) A3)))))))),?_⟩
 have d10:(0:Int)<10/\(10:Int).natAbs.log2<9000:=⟨by decide,by decide+kernel⟩
 obtain⟨⟨dx,e⟩,_,_⟩:=id hc
 have r1:=ok.r1;have r2:=ok.r2
 refine⟨_,rfl,_,rfl,c,CC,dx,_,_,rfl,e,C.c.cl,C.c.n_room,A3u _ _ _ _ _ _,v.r.toNat,(by rw[Int.toNat_of_nonneg (by omega)];rfl),by omega,rfl,_,rfl,?_⟩
 unfold A5f at k
 refine G8 (fun h=>?_) (fun h=>?_)
 . have h:fg=A2 v.r:=by injection h
   rw[if_pos h] at k
   exact⟨_,rfl,_,rfl,_,_,rfl,rfl,d10,_,rfl,_,_,rfl,rfl,B0s k⟩
 have h:¬fg=A2 v.r:=fun z=>h (congrArg V.int z)
 rw[if_neg h] at k
 exact⟨_,rfl,_,rfl,_,rfl,B0s k⟩
noncomputable def B9v (CN CC:Addr):Sp:=fun vs H Q _=>∃c v a b xs ys n x,vs=[.ref c,.ref n]/\Y2 CC H c v a b xs ys/\V6 CN H n x/\x.f.natAbs<2^300/\Q (.bl (A0q v.m x.f x.p)) H
theorem D1s:B7 Q10 Q10 (A7 A8v):=scK
theorem C6y{f f1 CN CC CB CT CW:Addr}{cw:Wy ->Addr}(D:Def K mg "is_beyond" Q10 A8v f fd)(dA:Def K mg "lead_of" ["number"] C5a f1 fd1)(dB:sI P w K mg base 1 f1 fd1 ["number"] (D2w CN))(C:A6n P w K mg base CC CB CT CW cw)(N:Num K mg CN):
   sI P w K mg base 2 f fd Q10 (B9v CN CC):=by
 refine A8.up (D.F.ok D1s (fun vs H Q E h=>?_) (fun cdv A outer s H vs Q E hr h=>?_))
 . obtain⟨c,v,a,b,xs,ys,n,x,rfl,_⟩:=h
   rfl
 obtain⟨c,v,a,b,xs,ys,n,x,rfl,hc,hn,hf,k⟩:=h
 have hx:U0 (A1j CX0 P w K mg base Q10 "is_beyond" (A7 A8v) f cdv A outer s H E).nox EKF:=Y0
 refine⟨_,(A5 (B0 (A2s (G3 B0x (D3 (pv 1) rfl) A1 (B8 _)) (A1d (G3 A5a (C4 dA dB hr hx (A0 (pv 1) A3)) (D3 (pv 0) rfl) (B8 _)))))),?_⟩
 obtain⟨⟨dx,e⟩,_,_⟩:=id hc
 obtain⟨dn,en⟩:=id hn
 unfold A0q at k
 refine⟨_,rfl,n,CN,dn,_,_,rfl,en,N.cl,N.n3,A4n _ _ _ _,rfl,_,rfl,?_⟩
 by_cases h0:x.f=0
 . rw[if_pos h0] at k
   rw[decide_eq_true (congrArg V.int h0)]
   exact U6 k
 rw[if_neg h0] at k
 rw[decide_eq_false (fun q=>h0 (by injection q):¬V.int x.f=V.int 0)]
 exact Y3 ⟨_,rfl,n,_,_,_,_,rfl,hn,hf,_,rfl,c,CC,dx,_,_,rfl,e,C.c.cl,C.c.n_most,B2v _ _ _ _ _ _,_,_,rfl,rfl,k⟩
noncomputable def C5z (CN CC:Addr):Sp:=fun vs H Q _=>∃c v a b xs ys,∃s:Int,vs=[.ref c,.int s]/\Y2 CC H c v a b xs ys/\v.Ok/\∀n H',H n=none ->B5 H H' ->V6 CN H' n ⟨.plain,s,A2 v.r-1,v.m-v.r+1⟩ ->Q (.ref n) H'
theorem G0p:B7 Q8 Q8 (A7 B3h):=scK
theorem D2v{f f1 fI CN CC CB CT CW:Addr}{cw:Wy ->Addr}{fd fd1 fdI:FuncData}(D:Def K mg "nines" Q8 B3h f fd)(dA:Def K mg "ten_to" ["count"] A1k f1 fd1)(dB:sI P w K mg base 2 f1 fd1 ["count"] A1t)(C:A6n P w K mg base CC CB CT CW cw)(N:Num K mg CN)(M:A6v P w K mg base CN fI fdI):
   sI P w K mg base 3 f fd Q8 (C5z CN CC):=by
 refine A8.up (D.F.ok G0p (fun vs H Q E h=>?_) (fun cdv A outer s H vs Q E hr h=>?_))
 . obtain⟨c,v,a,b,xs,ys,sg,rfl,_⟩:=h
   rfl
 obtain⟨c,v,a,b,xs,ys,sg,rfl,hc,ok,k⟩:=h
 have hx:U0 (A1j CX0 P w K mg base Q8 "nines" (A7 B3h) f cdv A outer s H E).nox EKF:=Y0
 refine⟨_,(A5 (B0 (A3n M.m (A8.up M.g) hr N.g M.b .nil hx (A0 C5 (A0 (pv 1) (A0 (A9 U2 (C4 dA dB hr hx (A0 (D3 (pv 0) rfl) A3)) A1) (A0 (A9 G9 (A9 U2 (D3 (pv 0) rfl) (D3 (pv 0) rfl)) A1) A3))))))),?_⟩
 obtain⟨⟨dx,e⟩,_,_⟩:=id hc
 have r1:=ok.r1;have r2:=ok.r2
 exact⟨_,rfl,_,rfl,c,CC,dx,_,_,rfl,e,C.c.cl,C.c.n_room,A3u _ _ _ _ _ _,v.r.toNat,(by rw[Int.toNat_of_nonneg (by omega)];rfl),by omega,_,_,rfl,rfl,_,rfl,c,CC,dx,_,_,rfl,e,C.c.cl,C.c.n_most,B2v _ _ _ _ _ _,_,rfl,c,CC,dx,_,_,rfl,e,C.c.cl,C.c.n_room,A3u _ _ _ _ _ _,_,_,rfl,rfl,_,_,rfl,rfl,B0s k⟩
noncomputable def C5x (CN CC:Addr):Sp:=fun vs H Q _=>∃c v a b xs ys,∃s:Int,vs=[.ref c,.int s]/\Y2 CC H c v a b xs ys/\v.Ok/\0<=s/\s<=1/\∀n H',B5 H H' ->V6 CN H' n (B0b v s) ->Q (.ref n) H'
theorem G0k:B7 Q8 Q8 (A7 B2u):=scK
theorem D0j{f f1 f2 CN CN' CC CB CT CW:Addr}{cw:Wy ->Addr}(D:Def K mg "burst" Q8 B2u f fd)(dA:Def K mg "nines" Q8 B3h f1 fd1)(dB:sI P w K mg base 3 f1 fd1 Q8 (C5z CN CC))(dC:Def K mg "end" ["sign"] C2s f2 fd2)(dD:sI P w K mg base 3 f2 fd2 ["sign"] (B9z K CN CN'))(C:A6n P w K mg base CC CB CT CW cw):
   sI P w K mg base 4 f fd Q8 (C5x CN CC):=by
 refine A8.up (D.F.ok G0k (fun vs H Q E h=>?_) (fun cdv A outer s H vs Q E hr h=>?_))
 . obtain⟨c,v,a,b,xs,ys,sg,rfl,_⟩:=h
   rfl
 obtain⟨c,v,a,b,xs,ys,sg,rfl,hc,ok,s0,s1,k⟩:=h
 have hx:U0 (A1j CX0 P w K mg base Q8 "burst" (A7 B2u) f cdv A outer s H E).nox EKF:=Y0
 obtain⟨fW,fdW,mW,gW,bW⟩:=C.way
 obtain⟨fU,fdU,mU,gU,bU⟩:=C.e v.y
 refine⟨_,(A5 (B0 (V4 (V5 (A8c (A0t (pv 0) C.c.cl mW gW hr bW .nil hx) (C.wc v.y).cl mU gU hr bU .nil hx (A0 (pv 1) A3))) (C4 dC dD hr hx (A0 (pv 1) A3)) (C4 dA dB hr hx (A0 (pv 0) (A0 (pv 1) A3)))))),?_⟩
 obtain⟨⟨dx,e⟩,_,_⟩:=id hc
 unfold B0b at k
 refine⟨_,rfl,c,dx,_,rfl,e,A6y _ _ _ _ _ _,c,v.r,v.y,v.l,v.m,a,b,_,_,rfl,hc,fun q dq H1 nq t1 eq=>?_⟩
 refine⟨q,dq,_,rfl,eq,rfl,_,rfl,q,sg,rfl,fun H2 t2=>⟨_,rfl,?_⟩⟩
 have t3:=t1.trans t2
 cases g:v.y.toEnd sg with
 | true=>
   rw[g,if_pos rfl] at k
   exact Y3 ⟨_,rfl,_,rfl,.inl ⟨⟨sg,rfl,s0,s1⟩,fun n H' _ sm num=>k n H' (t3.trans sm) num⟩⟩
 | false=>
   rw[g,if_neg Bool.false_ne_true] at k
   exact U6 ⟨_,rfl,_,rfl,c,v,a,b,xs,ys,sg,rfl,hc.same t3,ok,fun n H' _ sm num=>k n H' (t3.trans sm) num⟩
noncomputable def B5v:Sp:=fun vs H Q _=>∃(pt:Int) (cut:Bool),vs=[.int pt,.bl cut]/\∀l,H l=none ->Q (.ref l) (upd H l (.lst ((Y1 pt cut).map V.str)))
theorem C8p:B7 Q30 Q30 (A7 A9b):=scK
theorem C2c(D:Def K mg "signals_of_rest" Q30 A9b f fd):sI P w K mg base 1 f fd Q30 B5v:=by
 refine A8.up (D.F.ok C8p (fun vs H Q E h=>?_) (fun cdv A outer s H vs Q E hr h=>?_))
 . obtain⟨pt,cut,rfl,_⟩:=h
   rfl
 obtain⟨pt,cut,rfl,k⟩:=h
 refine⟨_,(A4 (D9 (B9 B0x (pv 0) A1 (B8 _)) (A5 (B0 (G4 (A0 C5 (A0 C5 A3))))) C6) (A5 (B0 (V4 (V5 (pv 1)) (G4 (A0 C5 A3)) (G4 A3))))),?_⟩
 unfold Y1 at k
 refine⟨_,rfl,rfl,_,rfl,?_⟩
 by_cases h0:pt=0
 . subst h0
   rw[if_pos rfl] at k
   refine B0z rfl ⟨_,rfl,_,rfl,?_⟩
   cases cut with
   |true=>exact Y3 ⟨C7 (by decide),k⟩
   |false=>exact U6 ⟨C7 (by decide),k⟩
 rw[if_neg h0] at k
 rw[decide_eq_false (fun q=>h0 (by injection q):¬V.int pt=V.int 0)]
 exact Y3 ⟨C7 (by decide),k⟩
noncomputable def B5j (CC:Addr):Sp:=fun vs H Q _=>∃c v a b xs ys,∃L pt:Int,vs=[.ref c,.int L,.int pt]/\Y2 CC H c v a b xs ys/\∀l,H l=none ->Q (.ref l) (upd H l (.lst ((A1a v.l L pt).map V.str)))
theorem C7e:B7 Q31 Q31 (A7 A7y):=scK
theorem C2d{f CC CB CT CW:Addr}{cw:Wy ->Addr}(D:Def K mg "signals_of_lead" Q31 A7y f fd)(C:A6n P w K mg base CC CB CT CW cw):sI P w K mg base 1 f fd Q31 (B5j CC):=by
 refine A8.up (D.F.ok C7e (fun vs H Q E h=>?_) (fun cdv A outer s H vs Q E hr h=>?_))
 . obtain⟨c,v,a,b,xs,ys,L,pt,rfl,_⟩:=h
   rfl
 obtain⟨c,v,a,b,xs,ys,L,pt,rfl,hc,k⟩:=h
 refine⟨_,(A4 (D9 (B9 C4y (pv 1) (D3 (pv 0) rfl) (B8 _)) (A5 (B0 (G4 A3))) C6) (A5 (B0 (V4 (B9 D4 (pv 2) A1 (B8 _)) (G4 (A0 C5 A3)) (G4 (A0 C5 (A0 C5 A3))))))),?_⟩
 obtain⟨⟨dx,e⟩,_,_⟩:=id hc
 unfold A1a at k
 refine⟨_,rfl,_,rfl,c,CC,dx,_,_,rfl,e,C.c.cl,C.c.n_least,B5f _ _ _ _ _ _,_,_,rfl,rfl,_,rfl,G8 (fun h=>?_) (fun h=>?_)⟩
 . rw[if_pos h] at k
   exact⟨C7 (by decide),k⟩
 rw[if_neg h] at k
 refine⟨_,rfl,rfl,_,rfl,G8 (fun h=>?_) (fun h=>?_)⟩
 . rw[if_pos (by injection h)] at k
   exact⟨C7 (by decide),k⟩
 rw[if_neg fun q=>h (congrArg V.int q)] at k
 exact⟨C7 (by decide),k⟩
noncomputable def A2t (CN CC:Addr):Sp:=fun vs H Q _=>∃c v a b xs ys,∃s i:Int,vs=[.ref c,.int s,.int i]/\Y2 CC H c v a b xs ys/\∀n H',H n=none ->B5 H H' ->V6 CN H' n ⟨.plain,s,0,B4k (A3t i (v.l-v.r+1)) v.m⟩ ->Q (.ref n) H'
theorem D2d:B7 Q11 Q11 (A7 A1v):=scK
theorem C8t{f fI CN CC CB CT CW:Addr}{cw:Wy ->Addr}{fd fdI:FuncData}(D:Def K mg "nought" Q11 A1v f fd)(C:A6n P w K mg base CC CB CT CW cw)(N:Num K mg CN)(M:A6v P w K mg base CN fI fdI)(O:Own mg):sI P w K mg base 3 f fd Q11 (A2t CN CC):=by
 refine A8.up (D.F.ok D2d (fun vs H Q E h=>?_) (fun cdv A outer s H vs Q E hr h=>?_))
 . obtain⟨c,v,a,b,xs,ys,sg,i,rfl,_⟩:=h
   rfl
 obtain⟨c,v,a,b,xs,ys,sg,i,rfl,hc,k⟩:=h
 have hx:U0 (A1j CX0 P w K mg base Q11 "nought" (A7 A1v) f cdv A outer s H E).nox EKF:=Y0
 obtain⟨fL,fdL,mL,gL,bL⟩:=C.low
 refine⟨_,(A5 (B0 (A3n M.m (A8.up M.g) hr N.g M.b .nil hx (A0 C5 (A0 (pv 1) (A0 A1 (A0 (G7 (A0g rfl) (by rfl) O.min_ boot_min (A0 (G7 (A0b rfl) (by rfl) O.max_ boot_max (A0 (pv 2) (A0 (A0t (pv 0) C.c.cl mL gL hr bL .nil hx) A3))) (A0 (D3 (pv 0) rfl) A3))) A3))))))),?_⟩
 obtain⟨⟨dx,e⟩,_,_⟩:=id hc
 exact⟨_,rfl,_,rfl,_,rfl,c,dx,_,rfl,e,A3f _ _ _ _ _ _,c,v.r,v.y,v.l,v.m,a,b,_,_,rfl,hc,_,_,rfl,_,rfl,c,CC,dx,_,_,rfl,e,C.c.cl,C.c.n_most,B2v _ _ _ _ _ _,_,_,rfl,B0s k⟩
noncomputable abbrev A1z:Stmt:=(top 47)
noncomputable abbrev A3k:Stmt:=(top 60)
theorem A8k(i:Int):∀(n:Nat) (f p:Int),0<=f ->0<=(A4y i n f p).1/\(A4y i n f p).1<=f
 |0,f,p,h=>⟨h,Int.le_refl _⟩
 | n +1,f,p,h=>by
   show 0<=(if f % 10=0 then A4y i n (f/10) (p+1) else(f,p)).1/\(if f % 10=0 then A4y i n (f/10) (p+1) else(f,p)).1<=f
   by_cases z:f % 10=0
   . rw[if_pos z]
     have:=A8k i n (f/10) (p+1) (by omega)
     omega
   . rw[if_neg z]
     exact⟨h,Int.le_refl _⟩
theorem D1d{t b u1 v1 u2 v2 d:Nat}(h:t*10^u1<10*(b*10^v1))(e:u2+v1<=u1+v2+d):t*10^u2<10^(d+1)*(b*10^v2):=by
 have p:0<10^v1:=Nat.pow_pos (by decide)
 apply Nat.lt_of_mul_lt_mul_right (a:=10^v1)
 calc t*10^u2*10^v1=t*10^(u2+v1):=by rw[Nat.mul_assoc, <-Nat.pow_add]
   _<=t*10^(u1+v2+d):=Nat.mul_le_mul_left t (Nat.pow_le_pow_right (by decide) e)
   _=t*10^u1*(10^v2*10^d):=by rw[Nat.mul_assoc, <-Nat.pow_add, <-Nat.pow_add,Nat.add_assoc]
   _<10*(b*10^v1)*(10^v2*10^d):=Nat.mul_lt_mul_of_pos_right h (Nat.mul_pos (Nat.pow_pos (by decide)) (Nat.pow_pos (by decide)))
   _=10^(d+1)*(b*10^v2)*10^v1:=by rw[Nat.pow_succ];ac_rfl
theorem C4e{t b s1 s2 r:Int}(ht:Sz t)(hb:Sz b)(h:A0m t b s1)(hr:1<=r)(e:s2<=s1+(r-1)):0<=whI t b s2/\whI t b s2<A2 r:=by
 obtain⟨tn,rfl,_,_⟩:=ht.nat
 obtain⟨bn,rfl,b1,_⟩:=hb.nat
 have lp:0<(bn:Int)*A2 (-s2):=Int.mul_pos (by omega) (C8 _)
 refine⟨Int.ediv_nonneg (Int.mul_nonneg (by omega) (Int.le_of_lt (C8 _))) (Int.le_of_lt lp),?_⟩
 refine Int.ediv_lt_of_lt_mul lp ?_
 have a:tn*10^s1.toNat<10*(bn*10^(-s1).toNat):=Int.ofNat_lt.mp h.2
 have c:=D1d (u2:=s2.toNat) (v2:=(-s2).toNat) (d:=(r-1).toNat) a (by
   have x1:=Int.toNat_sub_toNat_neg s1
   have x2:=Int.toNat_sub_toNat_neg s2
   have x3:=Int.toNat_of_nonneg (show 0<=r-1 by omega)
   clear a lp h
   generalize s1.toNat=A at*
   generalize (-s1).toNat=B at*
   generalize s2.toNat=C at*
   generalize (-s2).toNat=D at*
   generalize (r-1).toNat=E at*
   omega)
 rw[show(r-1).toNat+1=r.toNat by omega] at c
 exact Int.ofNat_lt.mpr c
theorem B1r{r:Int}(h:r<=24):A2 r<=10^24:=by
 unfold A2
 have:10^r.toNat<=10^24:=Nat.pow_le_pow_right (by decide) (by omega)
 exact Int.ofNat_le.mpr this
theorem C2e{c:Cv}{s wh pt q i:Int}(ok:c.Ok)(h0:0<=wh)(h1:wh<A2 c.r):(V9 c s wh pt q i).1.natAbs<2^300:=by
 have t:=B1r ok.r2
 have big:((10^24:Nat):Int)=10^24:=by decide+kernel
 have lt:∀z:Int,0<=z ->z<=10^24 ->z.natAbs<2^300:=fun z a b=>Nat.lt_of_le_of_lt (show z.natAbs<=10^24 by omega) (by decide+kernel)
 unfold V9
 split
 . have:=A8k i (i-q).toNat wh q h0
   exact lt _ this.1 (by unfold Z7;omega)
 have hu:0<=upI c.y s wh pt/\upI c.y s wh pt<=A2 c.r:=by
   have e:upI c.y s wh pt=wh+1\/upI c.y s wh pt=wh:=by
     unfold upI
     generalize (if pt=0 then false else c.y.goes s (wh % 10) pt)=g
     cases g with
     |true=>exact .inl rfl
     |false=>exact .inr rfl
   omega
 generalize upI c.y s wh pt=u at hu
 unfold A5f
 split
 . exact lt (u/10) (by omega) (by omega)
 exact lt u (by omega) (by omega)
theorem D1k:B7 Q26 Q26 (A7 A8h):=scK
noncomputable def Cv.fin (v:Cv) (L:Int):Int:=A3t (L-v.r+1) (v.l-v.r+1)
noncomputable def A4j (v:Cv) (s t bo n L i:Int):Nm×List Str:=A3b v s (whI t bo (n-v.fin L)) (ptI t bo (n-v.fin L)) L (v.fin L) i
noncomputable def B9r (CC:Addr) (H:Hp) (c:Addr) (a':Addr):Prop:=∀z,H z≠none ->(∃v a b xs ys,Y2 CC H c v a b xs ys/\a≠z) ->a'≠z
theorem B8z{CC:Addr}{H:Hp}{c a':Addr}(h:H a'=none):B9r CC H c a':=fun z hz _ e=>hz (e▸h)
theorem Y2.uniq{CC:Addr}{H:Hp}{c:Addr}{v v0:Cv}{a a0 b b0:Addr}{xs ys xs0 ys0:List Str}(h:Y2 CC H c v a b xs ys)(h0:Y2 CC H c v0 a0 b0 xs0 ys0):a0=a:=by
 obtain⟨⟨dx,e⟩,_,_⟩:=h
 obtain⟨⟨d0,e0⟩,_,_⟩:=h0
 rw[e] at e0
 injection e0 with e0
 injection e0 with _ _ e0
 have q:=A3h (.int v.r) (.str v.y.name) (.int v.l) (.int v.m) (.ref a) (.ref b)
 rw[e0,A3h] at q
 injection q with q
 injection q with q
theorem J6u{CC:Addr}{H:Hp}{c:Addr}{v:Cv}{a b:Addr}{xs ys:List Str}(h:Y2 CC H c v a b xs ys):B9r CC H c a:=fun z _ ⟨_,_,_,_,_,h0,n⟩=>by rw[<-h.uniq h0];exact n
theorem C4g{CC:Addr}{H H1:Hp}{c a':Addr}(s:B5 H H1)(n:B9r CC H1 c a'):B9r CC H c a':=fun z hz ⟨v,a,b,xs,ys,h,e⟩=>n z (fun q=>hz (s.free q)) ⟨v,a,b,xs,ys,h.same s,e⟩
noncomputable def A1h (CN CC CT:Addr) (H:Hp) (c:Addr) (v:Cv) (b:Addr) (xs ys:List Str) (res:Nm×List Str) (Q:VK) (E:XK):Prop:=
 (hit ys res.2=none ->∀m a' H',B9r CC H c a' ->Exc c H H' ->Y2 CC H' c v a' b (V1 (xs++res.2)) ys ->V6 CN H' m res.1 ->Q (.ref m) H')/\
 (∀z,hit ys res.2=some z ->∀a' d H',B9r CC H c a' ->Exc c H H' ->Y2 CC H' c v a' b (V1 (xs++res.2)) ys ->H' d=some (.xd [("signal",.str z)]) ->E (.ref CT) (some d) H')
noncomputable def A1n (CN CC CT CR:Addr):Sp:=fun vs H Q E=>∃c v a b xs ys x,∃t bo n L s i:Int,vs=[.ref c,.int s,.ref x,.int i]/\Y2 CC H c v a b xs ys/\v.Ok/\xs.length<=900/\A6w CR H x t bo n/\Sz t/\Sz bo/\A0m t bo (n-L)/\ -1500<=n-v.fin L/\n-v.fin L<=1500/\0<=s/\s<=1/\
 A1h CN CC CT H c v b xs ys (A4j v s t bo n L i) Q E
theorem scSettled:B7 ["context","sign","exact","ideal","finest","pair","number","names"] Q12 (A7 A1z):=scK
theorem C8z:∀z∈(Q50:List Str),z∈A0w:=by decide+kernel
theorem D3z{pt:Int}{cut:Bool}{l L:Int}:∀z∈Y1 pt cut++A1a l L pt,z∈A0w:=by
 have r:∀z∈Y1 pt cut,z∈A0w:=by
   unfold Y1
   split
   . split
     . decide+kernel
     . decide+kernel
   . decide+kernel
 have d:∀z∈A1a l L pt,z∈A0w:=by
   unfold A1a
   split
   . decide+kernel
   . split
     . decide+kernel
     . decide+kernel
 intro z hz
 rcases List.mem_append.mp hz with h|h
 . exact r z h
 exact d z h
theorem D1g{pt:Int}{cut:Bool}{l L:Int}:(Y1 pt cut++A1a l L pt).length<=4:=by
 have r:(Y1 pt cut).length<=2:=by
   unfold Y1
   split
   . split<;>decide
   . decide
 have d:(A1a l L pt).length<=2:=by
   unfold A1a
   split
   . decide
   . split<;>decide
 rw[List.length_append]
 omega
noncomputable def A7h (v:Cv) (x:Nm) (L:Int):Nm×List Str:=match x.k with
 | .plain=>if x.f=0 then(⟨.plain,x.s,0,B4k (A3t x.p (v.l-v.r+1)) v.m⟩,[]) else A4j v x.s x.f 1 x.p L x.p
 |_=>(x,[])
structure Exa where
 At:Hp ->Addr ->Prop
 L:Int
 wh:Int ->Int
 pt:Int ->Int
 okq:Int ->Prop
structure ExV(CR:Addr)(sp1 sp2:Sp)(e:Exa):Prop where
 same:∀H H' x,e.At H x ->B5 H H' ->e.At H' x
 ins:∀H x,e.At H x ->∃dx fs,H x=some (.ins CR dx fs)/\fs.lookup ("first":Str)=none/\fs.lookup ("at":Str)=none
 first:∀H x (Q:VK) (E:XK),e.At H x ->(∀H',B5 H H' ->Q (.int e.L) H') ->sp1 [.ref x] H Q E
 at_:∀H x q (Q:VK) (E:XK),e.At H x ->e.okq q ->(∀p H',B5 H H' ->H p=none ->H' p=some (.tup [.int (e.wh q),.int (e.pt q)]) ->Q (.ref p) H') ->sp2 [.ref x,.int q] H Q E
structure ExM(P:Program)(w:World)(K:Frag)(mg:Str ->Option Value)(base:Heap)(CR f1 f2:Addr)(fd1 fd2:FuncData)(sp1 sp2:Sp):Prop where
 cl:Cls K CR
 m1:A9f K CR "first" f1
 g1:sI P w K mg base 4 f1 fd1 ["self"] sp1
 b1:Binds K fd1 ["self"] []
 m2:A9f K CR "at" f2
 g2:sI P w K mg base 5 f2 fd2 Q14 sp2
 b2:Binds K fd2 Q14 []
theorem A8.lift{P:Program}{w:World}{K:Frag}{mg:Str ->Option Value}{base:Heap}{CX:CXT}{j k:Nat}{ps:List Str}{sp:Sp}(h:j<=k)(F:A8 P w K mg base CX j f fd ps sp):A8 P w K mg base CX k f fd ps sp:=
 ⟨F.len,fun A outer s H args us vs Q E hr=>F.run A outer s H args us vs Q E (hr.mono h)⟩
theorem A8.weak{P:Program}{w:World}{K:Frag}{mg:Str ->Option Value}{base:Heap}{CX:CXT}{k:Nat}{ps:List Str}{sp sp':Sp}(h:∀vs H Q E,sp' vs H Q E ->sp vs H Q E)(F:A8 P w K mg base CX k f fd ps sp):A8 P w K mg base CX k f fd ps sp':=
 ⟨fun vs H Q E z=>F.len vs H Q E (h _ _ _ _ z),fun A outer s H args us vs Q E hr e0 hb r z=>F.run A outer s H args us vs Q E hr e0 hb r (h _ _ _ _ z)⟩
theorem A8.both{P:Program}{w:World}{K:Frag}{mg:Str ->Option Value}{base:Heap}{CX:CXT}{k:Nat}{ps:List Str}{sp sp':Sp}(F:A8 P w K mg base CX k f fd ps sp)(G:A8 P w K mg base CX k f fd ps sp'):A8 P w K mg base CX k f fd ps (fun vs H Q E=>sp vs H Q E\/sp' vs H Q E):=
 ⟨fun vs H Q E z=>z.elim (F.len vs H Q E) (G.len vs H Q E),fun A outer s H args us vs Q E hr e0 hb r z=>z.elim (F.run A outer s H args us vs Q E hr e0 hb r) (G.run A outer s H args us vs Q E hr e0 hb r)⟩
noncomputable def B6f (CC CR:Addr) (sp1 sp2:Sp):Sp:=fun vs H Q _=>∃c v a b xs ys x,∃ex:Exa,vs=[.ref c,.ref x]/\Y2 CC H c v a b xs ys/\ExV CR sp1 sp2 ex/\ex.At H x/\∀H',B5 H H' ->Q (.int (A3t (ex.L-v.r+1) (v.l-v.r+1))) H'
theorem B4h{f CC CB CT CW CR CE g1 g2:Addr}{cw:Wy ->Addr}(D:Def K mg "finest_power" Q26 A8h f fd)(C:A6n P w K mg base CC CB CT CW cw){sp1 sp2:Sp}(RM:ExM P w K mg base CR g1 g2 gd1 gd2 sp1 sp2)(O:Own mg):sI P w K mg base 5 f fd Q26 (B6f CC CR sp1 sp2):=by
 refine A8.up (D.F.ok D1k (fun vs H Q E h=>?_) (fun cdv A outer s H vs Q E hr h=>?_))
 . obtain⟨c,v,a,b,xs,ys,x,ex,rfl,_⟩:=h
   rfl
 obtain⟨c,v,a,b,xs,ys,x,ex,rfl,hc,ev,ra,k⟩:=h
 have hx:U0 (A1j CX0 P w K mg base Q26 "finest_power" (A7 A8h) f cdv A outer s H E).nox EKF:=Y0
 obtain⟨fL,fdL,mL,gL,bL⟩:=C.low
 refine⟨_,(A5 (B0 (G7 (A0b rfl) (by rfl) O.max_ boot_max (A0 (A9 G9 (A9 U2 (A0t (pv 1) RM.cl RM.m1 RM.g1 hr RM.b1 .nil hx) (D3 (pv 0) rfl)) A1) (A0 (A0t (pv 0) C.c.cl mL gL hr bL .nil hx) A3))))),?_⟩
 obtain⟨dr,fs,er,nf,_⟩:=ev.ins _ _ ra
 refine⟨_,rfl,x,dr,_,rfl,er,nf,ev.first _ _ _ _ ra fun H1 s1=>?_⟩
 have hc1:=hc.same s1
 obtain⟨⟨dx,e⟩,_,_⟩:=id hc1
 exact⟨_,rfl,c,CC,dx,_,_,rfl,e,C.c.cl,C.c.n_room,A3u _ _ _ _ _ _,_,_,rfl,rfl,_,_,rfl,rfl,_,rfl,c,dx,_,rfl,e,A3f _ _ _ _ _ _,c,v.r,v.y,v.l,v.m,a,b,_,_,rfl,hc1,_,_,rfl,k H1 s1⟩
noncomputable def A4d (CN CC CT CR:Addr) (sp1 sp2:Sp):Sp:=fun vs H Q E=>∃c v a b xs ys x,∃(ex:Exa) (s i:Int),vs=[.ref c,.int s,.ref x,.int i]/\Y2 CC H c v a b xs ys/\v.Ok/\xs.length<=900/\ExV CR sp1 sp2 ex/\ex.At H x/\ex.okq (v.fin ex.L)/\0<=ex.wh (v.fin ex.L)/\ex.wh (v.fin ex.L)<A2 v.r/\0<=s/\s<=1/\
 A1h CN CC CT H c v b xs ys (A3b v s (ex.wh (v.fin ex.L)) (ex.pt (v.fin ex.L)) ex.L (v.fin ex.L) i) Q E
theorem B0p{f f1 f2 f3 f4 f5 f6 f7 f8 CN CC CB CT CW CR CE g1 g2:Addr}{cw:Wy ->Addr}{sp1 sp2:Sp}(D:Def K mg "settled" Q12 A1z f fd)
   (dA:Def K mg "finest_power" Q26 A8h f1 fd1) (dB:sI P w K mg base 5 f1 fd1 Q26 (B6f CC CR sp1 sp2)) (dC:Def K mg "nearest_to" Q23 A5r f2 fd2) (dD:sI P w K mg base 3 f2 fd2 Q23 (B5d CN))
   (dE:Def K mg "neighbour" Q24 A2m f3 fd3) (dF:sI P w K mg base 3 f3 fd3 Q24 (B0u CC)) (dG:Def K mg "within_room" Q25 A7x f4 fd4) (dH:sI P w K mg base 3 f4 fd4 Q25 (C0h CN CC))
   (dJ:Def K mg "is_beyond" Q10 A8v f5 fd5) (dL:sI P w K mg base 2 f5 fd5 Q10 (B9v CN CC)) (dM:Def K mg "burst" Q8 B2u f6 fd6) (dN:sI P w K mg base 4 f6 fd6 Q8 (C5x CN CC))
   (dP:Def K mg "signals_of_rest" Q30 A9b f7 fd7) (dQ:sI P w K mg base 1 f7 fd7 Q30 B5v) (dS:Def K mg "signals_of_lead" Q31 A7y f8 fd8) (dU:sI P w K mg base 1 f8 fd8 Q31 (B5j CC))
   (C:A6n P w K mg base CC CB CT CW cw) (RM:ExM P w K mg base CR g1 g2 gd1 gd2 sp1 sp2) (N:Num K mg CN):sI P w K mg base 6 f fd Q12 (A4d CN CC CT CR sp1 sp2):=by
 refine D.F.okE scSettled (fun vs H Q E h=>?_) (fun X cdv A outer s H vs Q E hX hr hx h=>?_)
 . obtain⟨c,v,a,b,xs,ys,x,ex,sg,i,rfl,_⟩:=h
   rfl
 subst hX
 obtain⟨c,v,a,b,xs,ys,x,ex,sg,i,rfl,hc,ok,lx,ev,ra,q0,wr0,wr1,s0,s1,k⟩:=h
 obtain⟨fR,fdR,mR,gR,bR⟩:=C.raised
 refine⟨_,(A4 (B3 (D0 (i:=4) scSettled.nd rfl (Or.inl rfl) (C4 dA dB hr hx (A0 (pv 0) (A0 (pv 2) A3))))) (A4 (B3 (D0 (i:=5) scSettled.nd rfl (Or.inl rfl) (A8c (pv 2) RM.cl RM.m2 RM.g2 hr RM.b2 .nil hx (A0 (pv 4) A3)))) (A4 (B3 (D9 (B9 D4 (D7 D8 (pv 5) A1 (fun _ _=>rfl)) A1 (B8 _)) (A5 (D0 (i:=6) scSettled.nd rfl (Or.inl rfl) (C4 dC dD hr hx (A0 (pv 3) (A0 (pv 1) (A0 (D7 D8 (pv 5) A1 (fun _ _=>rfl)) (A0 (pv 4) A3))))))) (A5 (D0 (i:=6) scSettled.nd rfl (Or.inl rfl) (C4 dG dH hr hx (A0 (pv 0) (A0 (pv 1) (A0 (C4 dE dF hr hx (A0 (pv 0) (A0 (pv 1) (A0 (pv 5) A3)))) (A0 (pv 4) A3))))))))) (A4 (B3 (D9 (V5 (C4 dJ dL hr hx (A0 (pv 0) (A0 (pv 6) A3)))) (A4 (U9 (A8c (pv 0) C.c.cl mR gR hr bR .nil hx (A0 (G4 (A0 C5 (A0 C5 (A0 C5 A3)))) A3))) (A5 (B0 (C4 dM dN hr hx (A0 (pv 0) (A0 (pv 1) A3)))))) C6)) (A4 (B3 (D0 (i:=7) scSettled.nd rfl (Or.inl rfl) (C4 dP dQ hr hx (A0 (D7 D8 (pv 5) A1 (fun _ _=>rfl)) (A0 (G3 A5a (D3 (pv 6) rfl) (pv 3) (B8 _)) A3))))) (A4 (B3 (U9 (A8c (pv 0) C.c.cl mR gR hr bR .nil hx (A0 (A9 B2t (pv 7) (C4 dS dU hr hx (A0 (pv 0) (A0 (A0t (pv 2) RM.cl RM.m1 RM.g1 hr RM.b1 .nil hx) (A0 (D7 D8 (pv 5) A1 (fun _ _=>rfl)) A3))))) A3)))) (A5 (B0 (pv 6))))))))),?_⟩
 have wr:=And.intro wr0 wr1
 unfold A3b at k
 let I_:L2.St ->L2.Hp ->Prop:=fun σ' H'=>B5 H H'/\σ'=[sr c,si sg,sr x,si i,si (v.fin ex.L),none,none,none]
 refine⟨I_,?_,?_⟩
 . exact⟨_,rfl,_,rfl,c,v,a,b,xs,ys,x,ex,rfl,hc,ev,ra,fun H' s'=>⟨s',rfl⟩⟩
 rintro σ' H1 ⟨t1,rfl⟩
 clear I_
 have hc1:=hc.same t1
 have ra1:=ev.same _ _ _ ra t1
 generalize v.fin ex.L=q at*
 generalize hwh:ex.wh q=wh at*
 generalize hpt:ex.pt q=pt at*
 let I_:L2.St ->L2.Hp ->Prop:=fun σ' H'=>∃p,B5 H1 H'/\H' p=some (.tup [.int wh,.int pt])/\σ'=[sr c,si sg,sr x,si i,si q,sr p,none,none]
 refine⟨I_,?_,?_⟩
 . obtain⟨dr,fs,er,_,na⟩:=ev.ins _ _ ra1
   refine⟨_,rfl,x,dr,_,rfl,er,na,_,rfl,ev.at_ _ _ _ _ _ ra1 q0 fun p H' s' np ep=>⟨p,s',?_,rfl⟩⟩
   rw[hwh,hpt] at ep
   exact ep
 refine L2.hideG fun Z_ z_=>?_
 rintro σ' H2 ⟨p,t2,hp,rfl⟩
 subst z_
 clear I_
 have hc2:=hc1.same t2
 have sm:=C2e (s:=sg) (pt:=pt) (q:=q) (i:=i) ok wr.1 wr.2
 let I_:L2.St ->L2.Hp ->Prop:=fun σ' H'=>∃m,B5 H2 H'/\H2 m=none/\V6 CN H' m ⟨.plain,sg,(V9 v sg wh pt q i).1,(V9 v sg wh pt q i).2⟩/\σ'=[sr c,si sg,sr x,si i,si q,sr p,sr m,none]
 refine⟨I_,?_,?_⟩
 . refine⟨_,rfl,p,_,_,_,rfl,rfl,SqT.of hp,C0 (j:=1) rfl,rfl,_,rfl,G8 (fun h=>?_) (fun h=>?_)⟩
   . have h:pt=0:=by injection h
     refine⟨_,rfl,_,rfl,_,rfl,p,_,_,_,rfl,rfl,SqT.of hp,C0 (j:=0) rfl,_,rfl,i,sg,wh,q,rfl,fun m H' nm s' num=>⟨m,s',nm,?_,rfl⟩⟩
     unfold V9
     rw[if_pos h]
     exact num
   . have h:¬pt=0:=fun z=>h (congrArg V.int z)
     refine⟨_,rfl,_,rfl,_,rfl,_,rfl,_,rfl,c,v,a,b,xs,ys,p,sg,wh,pt,rfl,hc2,hp,fun H3 s3=>?_⟩
     refine⟨_,rfl,c,v,a,b,xs,ys,sg,_,q,rfl,hc2.same s3,ok,fun m H' nm s' num=>⟨m,s3.trans s',s3.free nm,?_,rfl⟩⟩
     unfold V9
     rw[if_neg h]
     exact num
 refine L2.hideG fun Z_ z_=>?_
 rintro σ' H3 ⟨m,t3,nm,num,rfl⟩
 subst z_
 clear I_
 have hc3:=hc2.same t3
 have tA:=(t1.trans t2).trans t3
 have nmc:m≠c:=fun z=>by
   obtain⟨⟨dx,e⟩,_,_⟩:=hc2
   rw[z,e] at nm
   cases nm
 obtain⟨⟨dx,e3⟩,_,_⟩:=id hc3
 generalize hf:(V9 v sg wh pt q i).1=fg at*
 generalize hg:(V9 v sg wh pt q i).2=pw at*
 refine⟨fun σ' H'=>H'=H3/\A0q v.m fg pw=false/\σ'=[sr c,si sg,sr x,si i,si q,sr p,sr m,none],?_,?_⟩
 . refine⟨_,rfl,_,rfl,c,v,a,b,xs,ys,m,_,rfl,hc3,num,sm,_,rfl,?_⟩
   cases e:A0q v.m fg pw with
   |false=>exact U6 ⟨rfl,rfl,rfl⟩
   | true=>
     rw[e,if_pos rfl] at k
     refine Y3 ⟨_,rfl,c,dx,_,rfl,e3,A1u _ _ _ _ _ _,C7 (by decide),fun l nl=>?_⟩
     have u:=B5.upd (o:= .lst [.str "burst",.str "off",.str "cut"]) nl
     refine⟨c,v.r,v.y,v.l,v.m,a,b,xs,ys,.ref l,rfl,hc3.same u,by omega,.inl ⟨l,Q50,rfl,A6,by decide,C8z,fun hn a' H4 x4 na ct=>?_,fun z hz a' d H4 x4 na ct nd ed=>?_⟩⟩
     . refine⟨_,rfl,_,rfl,c,v,a',b,_,ys,sg,rfl,ct,ok,s0,s1,fun m' H5 s5 num5=>k.1 hn m' a' H5 (B8z ((tA.trans u).free na)) (((Exc.of (tA.trans u)).trans x4).trans (.of s5)) (Y2.same ct s5) num5⟩
     . exact k.2 z hz a' d H4 (B8z ((tA.trans u).free na)) ((Exc.of (tA.trans u)).trans x4) ct ed
 refine L2.hideG fun Z_ z_=>?_
 rintro σ' H4 ⟨rfl,e,rfl⟩
 subst z_
 rw[e,if_neg Bool.false_ne_true] at k
 let I_:L2.St ->L2.Hp ->Prop:=fun σ' H'=>∃l,B5 H4 H'/\H' l=some (.lst ((Y1 pt (decide (pw>i))).map V.str))/\σ'=[sr c,si sg,sr x,si i,si q,sr p,sr m,sr l]
 refine⟨I_,?_,?_⟩
 . obtain⟨dn,en⟩:=id num
   exact⟨_,rfl,p,_,_,_,rfl,rfl,SqT.of (t3 _ _ hp),C0 (j:=1) rfl,_,rfl,m,CN,dn,_,_,rfl,en,N.cl,N.n4,A2f _ _ _ _,_,rfl,_,_,rfl,rfl,pt,_,rfl,fun l nl=>⟨l,B5.upd nl,A6,rfl⟩⟩
 refine L2.hideG fun Z_ z_=>?_
 rintro σ' H5 ⟨l,t5,hl,rfl⟩
 subst z_
 clear I_
 refine⟨fun σ' H'=>hit ys (Y1 pt (decide (pw>i))++A1a v.l ex.L pt)=none/\∃a',H a'=none/\Exc c H H'/\Y2 CC H' c v a' b (V1 (xs++(Y1 pt (decide (pw>i))++A1a v.l ex.L pt))) ys/\V6 CN H' m ⟨.plain,sg,fg,pw⟩/\σ'=[sr c,si sg,sr x,si i,si q,sr p,sr m,sr l],?_,?_⟩
 . have ra5:=ev.same _ _ _ ra1 ((t2.trans t3).trans t5)
   obtain⟨dr,fs,er,nf,_⟩:=ev.ins _ _ ra5
   have hc5:=hc3.same t5
   refine⟨_,rfl,c,dx,_,rfl,t5 _ _ e3,A1u _ _ _ _ _ _,_,rfl,_,rfl,_,rfl,x,dr,_,rfl,er,nf,ev.first _ _ _ _ ra5 fun H6 t6=>?_⟩
   generalize ex.L=f at*
   refine⟨_,rfl,p,_,_,_,rfl,rfl,SqT.of ((t5.trans t6) _ _ (t3 _ _ hp)),C0 (j:=1) rfl,c,v,a,b,xs,ys,f,pt,rfl,hc5.same t6,fun l2 nl2=>?_⟩
   have u2:=B5.upd (o:= .lst ((A1a v.l f pt).map V.str)) nl2
   have rl:=D1g (pt:=pt) (cut:=decide (pw>i)) (l:=v.l) (L:=f)
   rw[List.length_append] at rl
   refine⟨l,l2,_,_,rfl,rfl,(t6.trans u2) _ _ hl,A6,C7 (by rw[List.length_map,List.length_map];omega),fun l3 nl3=>?_⟩
   have u3:=B5.upd (o:= .lst ((Y1 pt (decide (pw>i))).map V.str++(A1a v.l f pt).map V.str)) nl3
   have tB:=(t6.trans u2).trans u3
   have num7:=(num.same t5).same tB
   obtain⟨dn7,en7⟩:=id num7
   have keep:∀{H':Hp},Exc c _ H' ->V6 CN H' m ⟨.plain,sg,fg,pw⟩:=fun x7=>⟨dn7,x7 _ _ en7 nmc⟩
   refine⟨c,v.r,v.y,v.l,v.m,a,b,xs,ys,.ref l3,rfl,(hc5.same tB),by omega,.inl ⟨l3,Y1 pt (decide (pw>i))++A1a v.l f pt,rfl,by rw[A6,List.map_append],by rw[List.length_append];omega,D3z,fun hn a' H8 x8 na ct=>?_,fun z hz a' d H8 x8 na ct nd ed=>?_⟩⟩
   . exact⟨hn,a',(tA.trans (t5.trans tB)).free na,(Exc.of (tA.trans (t5.trans tB))).trans x8,ct,keep x8,rfl⟩
   . exact k.2 z hz a' d H8 (B8z ((tA.trans (t5.trans tB)).free na)) ((Exc.of (tA.trans (t5.trans tB))).trans x8) ct ed
 refine L2.hideG fun Z_ z_=>?_
 rintro σ' H6 ⟨hn,a',na6,x6,ct,num6,rfl⟩
 subst z_
 exact⟨_,rfl,k.1 hn m a' H6 (B8z na6) x6 ct num6⟩
noncomputable def J1b (CR:Addr) (t bo n L:Int):Exa:=⟨fun H x=>A6w CR H x t bo n,L,fun q=>whI t bo (n-q),fun q=>ptI t bo (n-q),fun q=> -1500<=n-q/\n-q<=1500⟩
theorem J6s{CR:Addr}{t bo n L:Int}(ht:Sz t)(hb:Sz bo)(hL:A0m t bo (n-L)):ExV CR (A3v CR) (B3f CR) (J1b CR t bo n L) where
 same:=fun _ _ _ h s=>A6w.same h s
 ins:=fun _ _ h=>by
   obtain⟨dx,e⟩:=h
   exact⟨dx,_,e,B7e _ _ _,B6a _ _ _⟩
 first:=fun H x Q E h k=>⟨x,t,bo,n,rfl,h,ht,hb,fun f H' s ld=>by
   have ef:f=L:=by
     have:=G2n (show 0<bo by have:=hb.1;omega) ld hL
     omega
   rw[ef]
   exact k H' s⟩
 at_:=fun H x q Q E h ok k=>⟨x,t,bo,n,q,rfl,h,ht,hb,ok.1,ok.2,fun p H' s np ep=>k p H' s np ep⟩
theorem J5w{CR CE g1 g2:Addr}(RM:J3v P w K mg base CR g1 g2 gd1 gd2)(R:B8w K mg CR CE):ExM P w K mg base CR g1 g2 gd1 gd2 (A3v CR) (B3f CR):=⟨R.cl,RM.m1,RM.g1,RM.b1,RM.m2,A8.lift (by decide) RM.g2,RM.b2⟩
theorem B9f{CN CC CT CR:Addr}{vs:List V}{H:Hp}{Q:VK}{E:XK}(h:A1n CN CC CT CR vs H Q E):A4d CN CC CT CR (A3v CR) (B3f CR) vs H Q E:=by
 obtain⟨c,v,a,b,xs,ys,x,t,bo,n,L,sg,i,rfl,hc,ok,lx,ra,ht,hb,hL,q0,q1,s0,s1,k⟩:=h
 have wr:=C4e (s2:=n-v.fin L) ht hb hL ok.r1 (by
   unfold Cv.fin A3t
   split<;>omega)
 exact⟨c,v,a,b,xs,ys,x,J1b CR t bo n L,sg,i,rfl,hc,ok,lx,J6s ht hb hL,ra,⟨q0,q1⟩,wr.1,wr.2,s0,s1,k⟩
noncomputable def A3w (t s:Int):Prop:=A2 (-s)<=t*A2 s/\t*A2 s<100*A2 (-s)
noncomputable def A1p (t s wh:Int):Prop:=0<=wh/\wh*wh*A2 (-s)<=t*A2 s/\t*A2 s<(wh+1)*(wh+1)*A2 (-s)
noncomputable def A8j (t s wh:Int):Int:=if wh*wh*A2 (-s)=t*A2 s then 0 else 1+(if decide ((2*wh+1)*(2*wh+1)*A2 (-s)<=4*(t*A2 s))=true then 1 else 0)+(if decide ((2*wh+1)*(2*wh+1)*A2 (-s)<4*(t*A2 s))=true then 1 else 0)
structure J7p(t s wh:Int):Prop where
 o1:IntMulOk t (A2 s)
 o2:IntMulOk wh wh
 o3:IntMulOk (wh*wh) (A2 (-s))
 o4:IntMulOk (wh+1) (wh+1)
 o5:IntMulOk ((wh+1)*(wh+1)) (A2 (-s))
 o6:IntMulOk (2*wh+1) (2*wh+1)
 o7:IntMulOk ((2*wh+1)*(2*wh+1)) (A2 (-s))
theorem D0p{s:Int}(h:s<=0):A2 s=1:=by unfold A2;rw[show s.toNat=0 by omega];rfl
theorem C0m{t s r:Int}(ht:0<t)(h1:A3w t s)(h2:A3w t r)(hp:(r-s) % 2=0):r<=s:=by
 apply Classical.byContradiction
 intro h
 have hs:s<=r:=by omega
 have c:=Z6 hs
 have g:A2 2<=A2 (r-s):=V3 (by omega)
 have e100:A2 2=100:=by decide+kernel
 rw[e100] at g
 have p1:=C8 (-s)
 have p2:=C8 (-r)
 have e:t*A2 r*A2 (-s)=t*A2 s*A2 (-r)*A2 (r-s):=by
   calc t*A2 r*A2 (-s)=t*(A2 r*A2 (-s)):=by ac_rfl
     _=t*(A2 s*A2 (-r)*A2 (r-s)):=by rw[c]
     _=t*A2 s*A2 (-r)*A2 (r-s):=by ac_rfl
 have a1:t*A2 r*A2 (-s)<100*A2 (-r)*A2 (-s):=Int.mul_lt_mul_of_pos_right h2.2 p1
 have hp:0<t*A2 s:=Int.mul_pos ht (C8 s)
 have a2:t*A2 s*A2 (-r)*100<=t*A2 s*A2 (-r)*A2 (r-s):=Int.mul_le_mul_of_nonneg_left g (Int.le_of_lt (Int.mul_pos hp p2))
 have a3:A2 (-s)*A2 (-r)<=t*A2 s*A2 (-r):=Int.mul_le_mul_of_nonneg_right h1.1 (Int.le_of_lt p2)
 have e2:100*A2 (-r)*A2 (-s)=A2 (-s)*A2 (-r)*100:=by ac_rfl
 have a4:A2 (-s)*A2 (-r)*100<=t*A2 s*A2 (-r)*100:=Int.mul_le_mul_of_nonneg_right a3 (by decide)
 rw[e,e2] at a1
 exact absurd (Int.lt_of_lt_of_le a1 (Int.le_trans a4 a2)) (Int.lt_irrefl _)
theorem D0y{t n f g:Int}(ht:0<t)(h1:A3w t (n-2*f))(h2:A3w t (n-2*g)):f=g:=by
 have a:=C0m ht h1 h2 (by omega)
 have b:=C0m ht h2 h1 (by omega)
 omega
noncomputable def SzQ (t:Int):Prop:=1<=t/\t<10^61
theorem B0r{t s:Int}(ht:SzQ t)(h:A3w t s): -61<=s/\s<=1:=by
 refine⟨?_,?_⟩
 . apply Classical.byContradiction
   intro hs
   have g:A2 61<=A2 (-s):=V3 (by omega)
   have e61:A2 61=10^61:=by decide+kernel
   have a:=h.1
   rw[D0p (by omega:s<=0),Int.mul_one] at a
   rw[e61] at g
   have:=ht.2
   omega
 apply Classical.byContradiction
 intro hs
 have g:A2 2<=A2 s:=V3 (by omega)
 have e2:A2 2=100:=by decide+kernel
 have a:=h.2
 rw[D0p (by omega: -s<=0)] at a
 have:1*A2 s<=t*A2 s:=Int.mul_le_mul_of_nonneg_right ht.1 (Int.le_of_lt (C8 _))
 omega
theorem A2r{s:Int}(h:s<=200):(A2 s).natAbs<2^700:=by
 unfold A2
 rw[Int.natAbs_natCast]
 exact Nat.lt_of_le_of_lt (Nat.pow_le_pow_right (by decide) (show s.toNat<=200 by omega)) (by decide+kernel)
theorem SzQ.small{t:Int}(h:SzQ t):t.natAbs<2^203:=by
 have e:(10^61:Int).natAbs<2^203:=by decide+kernel
 have:=h.1;have:=h.2
 omega
theorem B2h{k:Nat}(h:k<=1000):(2:Nat)^k<=2^1000:=Nat.pow_le_pow_right (by decide) h
theorem B3v{t s:Int}(ht:SzQ t)(h:s<=200):(t*A2 s).natAbs<2^903:=by
 rw[Int.natAbs_mul]
 exact Nat.lt_of_lt_of_le (Nat.mul_lt_mul'' ht.small (A2r h)) (Nat.le_of_eq (Nat.pow_add 2 203 700).symm)
theorem C1j{t s wh:Int}(ht:SzQ t)(h2:s<=200)(r:A1p t s wh):wh.natAbs<2^452:=by
 obtain⟨w0,w1,_⟩:=r
 obtain⟨n,rfl⟩:=Int.eq_ofNat_of_zero_le w0
 rw[Int.natAbs_natCast]
 have hh:=B3v ht h2
 have l1:(1:Int)<=A2 (-s):=C8 (-s)
 have a:(n:Int)*n*1<=(n:Int)*n*A2 (-s):=Int.mul_le_mul_of_nonneg_left l1 (Int.mul_nonneg w0 w0)
 have b:(n:Int)*n<=t*A2 s:=by omega
 have c:n*n<2^903:=by
   have:((n*n:Nat):Int)<=t*A2 s:=b
   omega
 apply Classical.byContradiction
 intro z
 have:2^452*2^452<=n*n:=Nat.mul_le_mul (by omega) (by omega)
 rw[<-Nat.pow_add] at this
 have q:(2:Nat)^903<=2^(452+452):=Nat.pow_le_pow_right (by decide) (by decide)
 exact absurd (Nat.lt_of_lt_of_le c (Nat.le_trans q this)) (Nat.lt_irrefl _)
theorem D4d{a:Int}{k:Nat}(h:a.natAbs<2^k):(a*a).natAbs<2^(k+k):=by
 rw[Int.natAbs_mul,Nat.pow_add]
 exact Nat.mul_lt_mul'' h h
theorem C6a{t s wh:Int}(ht:SzQ t)(h1: -200<=s)(h2:s<=200)(r:A1p t s wh):J7p t s wh:=by
 have rs:=C1j ht h2 r
 have w0:=r.1
 have l:(A2 (-s)).natAbs<2^1000:=Nat.lt_of_lt_of_le (A2r (by omega)) (B2h (by decide))
 have d:(2:Nat)^454=4*2^452:=by rw[show 454=2+452 from rfl,Nat.pow_add]
 have e:∀{a:Int},a.natAbs<2^454 ->a.natAbs<2^1000:=fun h=>Nat.lt_of_lt_of_le h (B2h (by decide))
 have e2:∀{a:Int},a.natAbs<2^454 ->(a*a).natAbs<2^1000:=fun h=>Nat.lt_of_lt_of_le (D4d h) (B2h (by decide))
 have b1:wh.natAbs<2^454:=by omega
 have b2:(wh+1).natAbs<2^454:=by omega
 have b3:(2*wh+1).natAbs<2^454:=by omega
 exact⟨Z5 (Nat.lt_of_lt_of_le ht.small (B2h (by decide))) (Nat.lt_of_lt_of_le (A2r h2) (B2h (by decide))),Z5 (e b1) (e b1),Z5 (e2 b1) l,Z5 (e b2) (e b2),Z5 (e2 b2) l,Z5 (e b3) (e b3),Z5 (e2 b3) l⟩
theorem C5b{t s a b:Int}(ha:A1p t s a)(hb:A1p t s b):b<=a:=by
 apply Classical.byContradiction
 intro h
 have p:=C8 (-s)
 have q:(a+1)*(a+1)<=b*b:=Int.mul_le_mul (by omega) (by omega) (by have:=ha.1;omega) hb.1
 have q2:(a+1)*(a+1)*A2 (-s)<=b*b*A2 (-s):=Int.mul_le_mul_of_nonneg_right q (Int.le_of_lt p)
 have:=ha.2.2
 have:=hb.2.1
 omega
theorem G1c{t s a b:Int}(ha:A1p t s a)(hb:A1p t s b):a=b:=Int.le_antisymm (C5b hb ha) (C5b ha hb)
noncomputable abbrev A4p:Stmt:=(G6 (top 42) 0)
structure C9j(K:Frag)(mg:Str ->Option Value)(CR CE:Addr):Prop where
 g:mg "Root"=some (.ref CR)
 ge:mg "Exact"=some (.ref CE)
 cl:Cls K CR
 n_top:Y6 K CR "top"
 n_power:Y6 K CR "power"
 ca:findIn K (.ref CR) "__class__"=some (some (.builtin "object.__class__"))
 sn:specialIn K (.builtin "object.__class__") "__get__"=some (some (.builtin "getset_descriptor.__get__"))
 tk:takesIn K (.builtin "object.__class__")=some true
 ob:mroIn K CR (.type "object")=some true
 up:kitOne K (.ref CR) (.ref CE)=some true
noncomputable def B9b (t n:V):List (Str×V):=putF "power" n (putF "top" t [])
theorem B8r(t n:V)(x:Str):(B9b t n).lookup x=if x="power" then some n else if x="top" then some t else none:=by
 unfold B9b
 rw[G2,G2]
 rfl
theorem C4v(t n:V):(B9b t n).lookup ("top":Str)=some t:=by rw[B8r,if_neg (by decide+kernel),if_pos rfl]
theorem B5w(t n:V):(B9b t n).lookup ("power":Str)=some n:=by rw[B8r,if_pos rfl]
theorem B8d(t n:V):(B9b t n).lookup ("first":Str)=none:=by rw[B8r,if_neg (by decide+kernel),if_neg (by decide+kernel)]
theorem C7y(t n:V):(B9b t n).lookup ("at":Str)=none:=by rw[B8r,if_neg (by decide+kernel),if_neg (by decide+kernel)]
noncomputable def B1a (CR:Addr) (H:Hp) (x:Addr) (t n:Int):Prop:=∃dx,H x=some (.ins CR dx (B9b (.int t) (.int n)))
theorem B1a.same{CR:Addr}{H H':Hp}{x:Addr}{t n:Int}(h:B1a CR H x t n)(s:B5 H H'):B1a CR H' x t n:=by
 obtain⟨dx,e⟩:=h
 exact⟨dx,s _ _ e⟩
noncomputable def B8t (CR:Addr):Sp:=fun vs H Q _=>∃(p dx:Addr) (t n:V),vs=[.ref p,t,n]/\H p=some (.ins CR dx [])/\∀H',H' p=some (.ins CR dx (B9b t n)) ->Exc p H H' ->Q .non H'
theorem G0x:B7 Q27 Q27 (A7 A4p):=scK
theorem D3p{f CR CE:Addr}{dV:Value}(F:C9m K "__init__" "Root.__init__" A4p dV f fd)(R:C9j K mg CR CE):sI P w K mg base 1 f fd Q27 (B8t CR):=by
 refine F.okE G0x (fun vs H Q E h=>?_) (fun X cdv A outer s H vs Q E hX hr hx h=>?_)
 . obtain⟨p,dx,a,c,rfl,_⟩:=h
   rfl
 subst hX
 obtain⟨p,dx,a,c,rfl,hp,k⟩:=h
 refine⟨_,(A4 (A0c (pv 0) (pv 1) rfl) (A5 (A0c (pv 0) (pv 2) rfl))),?_⟩
 have l:∀(fs:List (Str×V)) (f:Str) (v:V) (n:Nat),fs.length<=n ->(putF f v fs).length<=n+1:=fun fs f v n h=>Nat.le_trans (A0u f v fs) (Nat.succ_le_succ h)
 refine⟨_,rfl,_,rfl,p,CR,dx,[],rfl,hp,R.cl,R.n_top,(by show 0<1000;decide),?_⟩
 refine⟨_,rfl,_,rfl,p,CR,dx,_,rfl,A6,R.cl,R.n_power,Nat.lt_of_le_of_lt (l _ _ _ 0 (Nat.le_refl _)) (by decide),?_⟩
 refine k _ A6 fun b o e hb=>?_
 rw[D5 hb,D5 hb]
 exact e
noncomputable def A5j (CR:Addr):Sp:=fun vs H Q _=>∃x t n,vs=[.ref x]/\B1a CR H x t n/\SzQ t/\ -900<=n/\n<=900/\∀f H',B5 H H' ->A3w t (n-2*f) ->Q (.int f) H'
noncomputable def B9c (CR:Addr):Sp:=fun vs H Q _=>∃x t n p,vs=[.ref x,.int p]/\B1a CR H x t n/\SzQ t/\ -200<=n-2*p/\n-2*p<=200/\
 ∀wh q H',B5 H H' ->H q=none ->A1p t (n-2*p) wh ->H' q=some (.tup [.int wh,.int (A8j t (n-2*p) wh)]) ->Q (.ref q) H'
structure G4u(P:Program)(w:World)(K:Frag)(mg:Str ->Option Value)(base:Heap)(CR fI:Addr)(fdI:FuncData)(d0:Value)(gP:List Value ->List Value ->List Value)(vP:List V ->List V ->List V):Prop where
 m:Mk K CR fI
 g:sI P w K mg base 1 fI fdI Q27 (B8t CR)
 b3:Binds K fdI Q27 []
 b2:Binds K fdI Q27 [d0]
 r0:U7 (.int 0) d0
 kP:D4k K fdI Q27 ["power"] gP vP
 eP:∀x a c,vP [x,a] [c]=[x,a,c]
structure J3w(P:Program)(w:World)(K:Frag)(mg:Str ->Option Value)(base:Heap)(CR f1 f2:Addr)(fd1 fd2:FuncData):Prop where
 m1:A9f K CR "first" f1
 g1:sI P w K mg base 4 f1 fd1 ["self"] (A5j CR)
 b1:Binds K fd1 ["self"] []
 m2:A9f K CR "at" f2
 g2:sI P w K mg base 5 f2 fd2 Q14 (B9c CR)
 b2:Binds K fd2 Q14 []
theorem J2g{CR x dx:Addr}{H:Hp}{Q:VK}{E:XK}{t n:Int}(n1:H x=none)(n2:H dx=none)(ne:dx≠x)(k:∀H',B5 H H' ->B1a CR H' x t n ->Q .non H'):
   B8t CR [.ref x,.int t,.int n] (upd (upd H dx (.own x)) x (.ins CR dx [])) Q E:=
 ⟨x,dx,_,_,rfl,A6,fun H' e s=>k H' (fun c o z=>s c o (by rw[D5 (C9 z n1),D5 (C9 z n2)];exact z) (C9 z n1)) ⟨dx,e⟩⟩
noncomputable abbrev B2j:Stmt:=(top 45)
theorem D3h{n g:Nat}(hg:1<=g):n<((g+n/g)/2+1)*((g+n/g)/2+1):=by
 have q:n<g*(n/g+1):=by
   have:=Nat.div_add_mod n g
   have:=Nat.mod_lt n hg
   rw[Nat.mul_add,Nat.mul_one]
   omega
 generalize n/g=d at q
 have b:g+(d+1)<=2*((g+d)/2+1):=by omega
 generalize (g+d)/2+1=c at b
 have s1:(g+(d+1))*(g+(d+1))<=2*c*(2*c):=Nat.mul_le_mul b b
 have s2:4*(g*(d+1))<=(g+(d+1))*(g+(d+1)):=by
   generalize d+1=e
   rcases Nat.le_total g e with h|h
   . obtain⟨k,rfl⟩:=Nat.exists_eq_add_of_le h
     have e1:(g+(g+k))*(g+(g+k))=4*(g*(g+k))+k*k:=by
       simp only[Nat.mul_add,Nat.add_mul]
       have:=Nat.mul_comm k g
       omega
     omega
   . obtain⟨k,rfl⟩:=Nat.exists_eq_add_of_le h
     have e1:(e+k+e)*(e+k+e)=4*((e+k)*e)+k*k:=by
       simp only[Nat.mul_add,Nat.add_mul]
       have:=Nat.mul_comm k e
       omega
     omega
 have s3:2*c*(2*c)=4*(c*c):=by
   rw[Nat.mul_mul_mul_comm]
 omega
noncomputable def C4r:Sp:=fun vs H Q _=>∃n:Nat,vs=[.int (n:Int)]/\n<10^300/\∀r:Nat,r*r<=n ->n<(r+1)*(r+1) ->Q (.int (r:Int)) H
theorem scWRoot:B7 ["whole","guess","better"] ["whole"] (A7 B2j):=scK
theorem D1x(D:Def K mg "whole_root" ["whole"] B2j f fd)(dA:Def K mg "ten_to" ["count"] A1k f1 fd1)(dB:sI P w K mg base 2 f1 fd1 ["count"] A1t)(dC:Def K mg "whole_lead" ["whole"] A7m f2 fd2)(dD:sI P w K mg base 3 f2 fd2 ["whole"] B1s):sI P w K mg base 4 f fd ["whole"] C4r:=by
 refine A8.up (D.F.ok scWRoot (fun vs H Q E h=>?_) (fun cdv A outer s H vs Q E hr h=>?_))
 . obtain⟨n,rfl,_⟩:=h
   rfl
 obtain⟨n,rfl,n2,k⟩:=h
 have hx:U0 (A1j CX0 P w K mg base ["whole","guess","better"] "whole_root" (A7 B2j) f cdv A outer s H E).nox EKF:=Y0
 refine⟨_,(A4 (D9 (B9 D4 (pv 0) A1 (B8 _)) (A5 (B0 A1)) C6) (A4 (D0 (i:=1) scWRoot.nd rfl (Or.inl rfl) (C4 dA dB hr hx (A0 (A9 G9 (A9 D6 (C4 dC dD hr hx (A0 (pv 0) A3)) A1) A1) A3))) (A4 (D0 (i:=2) scWRoot.nd rfl (Or.inl rfl) (A9 D6 (A9 G9 (pv 1) (A9 D6 (pv 0) (pv 1))) A1)) (A4 (A1y PassesOwn.never (B9 A6u (pv 2) (pv 1) (B8 _)) (A4 (D0 (i:=1) scWRoot.nd rfl (Or.inl rfl) (pv 2)) (A5 (D0 (i:=2) scWRoot.nd rfl (Or.inl rfl) (A9 D6 (A9 G9 (pv 1) (A9 D6 (pv 0) (pv 1))) A1))))) (A5 (B0 (pv 1))))))),?_⟩
 have d2:(0:Int)<2/\(2:Int).natAbs.log2<9000:=⟨by decide,by decide+kernel⟩
 refine⟨_,rfl,rfl,_,rfl,G8 (fun h0=>?_) (fun h0=>?_)⟩
 . have e:n=0:=by
     have:(n:Int)=0:=by injection h0
     omega
   subst e
   exact k 0 (Nat.le_refl _) (by decide)
 have n1:1<=n:=by
   apply Classical.byContradiction
   intro z
   exact h0 (by rw[show n=0 by omega];rfl)
 have lg:∀{g:Nat},1<=g ->g<2^1000 ->0<(g:Int)/\(g:Int).natAbs.log2<9000:=fun h1 h2=>⟨by omega,Nat.lt_trans (A0r (k:=1000) (by rw[Int.natAbs_natCast];exact h2) (by decide)) (by decide)⟩
 refine⟨_,rfl,n,rfl,n1,Nat.lt_trans n2 (Nat.pow_lt_pow_right (by decide) (by decide)),fun L L1 L2=>?_⟩
 have l3:L<300:=(Nat.pow_lt_pow_iff_right (by decide:1<10)).mp (Nat.lt_of_le_of_lt L1 n2)
 refine⟨_,_,rfl,rfl,d2,_,_,rfl,rfl,L/2+1,rfl,by omega,?_⟩
 have g1:1<=10^(L/2+1):=Nat.pow_pos (by decide)
 have g2:10^(L/2+1)<2^1000:=Nat.lt_of_le_of_lt (Nat.pow_le_pow_right (by decide) (show L/2+1<=200 by omega)) (by decide+kernel)
 have g3:n<(10^(L/2+1)+1)*(10^(L/2+1)+1):=by
   have a:10^(L+1)<=10^(L/2+1)*10^(L/2+1):=by
     rw[<-Nat.pow_add]
     exact Nat.pow_le_pow_right (by decide) (by omega)
   have b:10^(L/2+1)*10^(L/2+1)<=(10^(L/2+1)+1)*(10^(L/2+1)+1):=Nat.mul_le_mul (Nat.le_succ _) (Nat.le_succ _)
   omega
 refine⟨_,rfl,_,rfl,_,rfl,_,_,rfl,rfl,lg g1 g2,_,_,rfl,rfl,_,_,rfl,rfl,d2,?_⟩
 refine A1b (fun σ H2=>H2=H/\∃g:Nat,1<=g/\g<2^1000/\n<(g+1)*(g+1)/\σ=[si (n:Int),si (g:Int),si (((g+n/g)/2:Nat):Int)]) (fun σ _=>match σ with| [_,some (.int c),_]=>c.toNat|_=>0) ?_ ?_ ?_
 . exact⟨rfl,10^(L/2+1),g1,g2,g3,rfl⟩
 . rintro σ H2 ⟨rfl,g,g1,g2,g3,rfl⟩
   refine⟨_,rfl,_,rfl,_,_,rfl,rfl,_,rfl,G8 (fun hlt=>?_) (fun hge=>?_)⟩
   . have hlt:(g+n/g)/2<g:=Int.ofNat_lt.mp hlt
     have b1:1<=(g+n/g)/2:=by
       rcases(by omega:g=1\/2<=g) with rfl|h
       . rw[Nat.div_one];omega
       . clear hlt
         generalize n/g=d
         omega
     have b3:=D3h (n:=n) g1
     generalize (g+n/g)/2=b at hlt b1 b3
     refine⟨_,rfl,_,rfl,_,rfl,_,rfl,_,_,rfl,rfl,lg b1 (Nat.lt_trans hlt g2),_,_,rfl,rfl,_,_,rfl,rfl,d2,⟨rfl,b,b1,Nat.lt_trans hlt g2,b3,rfl⟩,?_⟩
     show(b:Int).toNat<(g:Int).toNat
     omega
   . have hge:g<=(g+n/g)/2:=by
       have:¬((g+n/g)/2<g):=fun z=>hge (Int.ofNat_lt.mpr z)
       omega
     refine⟨_,rfl,k g ?_ g3⟩
     have:g<=n/g:=by omega
     exact(Nat.le_div_iff_mul_le (by omega)).mp this
 rintro σ H2 Q1 Q2 hQ ⟨v,e,v2,e2,i,j,e3,e4,b,e5,q⟩
 exact⟨v,e,v2,e2,i,j,e3,e4,b,e5,hQ _ _ q⟩
noncomputable abbrev C3s:Stmt:=(G6 (top 42) 2)
noncomputable abbrev A8q:Stmt:=(G6 (top 42) 1)
theorem C3y{t:Int}(h:SzQ t):∃n:Nat,t=(n:Int)/\1<=n/\n<10^61:=by
 obtain⟨n,rfl⟩:=Int.eq_ofNat_of_zero_le (show 0<=t by have:=h.1;omega)
 have:=h.1;have:=h.2
 exact⟨n,rfl,by omega,by omega⟩
theorem G1r{h m:Int}(hp:0<h):Z3 (2*h) m=1+(if decide (m<=4*h)=true then 1 else 0)+(if decide (m<4*h)=true then 1 else 0):=by
 unfold Z3
 rw[decide_eq_true (by omega:0<2*h),show 2*(2*h)=4*h by omega]
 rfl
theorem B5z{t L:Nat}{n f:Int}(t1:10^L<=t)(t2:t<10^(L+1))(e:f=((L:Int)+n)/2):A3w t (n-2*f):=by
 have hs:n-2*f= -(L:Int)\/n-2*f=1-(L:Int):=by omega
 have key:∀u v:Nat,(u=0/\(v=L\/v+1=L))\/(u=1/\v=0/\L=0) ->10^v<=t*10^u/\t*10^u<100*10^v:=by
   rintro u v (⟨rfl,rfl|rfl⟩|⟨rfl,rfl,rfl⟩)
   . rw[Nat.pow_succ] at t2
     omega
   . rw[Nat.pow_succ] at t1
     rw[Nat.pow_succ,Nat.pow_succ] at t2
     omega
   . simp at t1 t2 ⊢
     omega
 have:=key (n-2*f).toNat (-(n-2*f)).toNat (by
   rcases hs with e|e
   . rw[e]
     exact .inl ⟨Int.toNat_of_nonpos (by omega),.inl (by rw[Int.neg_neg];exact Int.toNat_natCast L)⟩
   . rw[e]
     cases L with
     |zero=>exact .inr ⟨rfl,rfl,rfl⟩
     |succ j=>exact .inl ⟨Int.toNat_of_nonpos (by omega),.inr (by rw[show -(1-((j+1:Nat):Int))=(j:Int) by omega,Int.toNat_natCast])⟩)
 unfold A3w A2
 exact⟨Int.ofNat_le.mpr this.1,Int.ofNat_lt.mpr this.2⟩
theorem D2f:B7 ["self"] ["self"] (A7 A8q):=scK
theorem C7n{f f1 CR CE:Addr}(F:Fun K "first" "Root.first" A8q f fd)(dA:Def K mg "whole_lead" ["whole"] A7m f1 fd1)(dB:sI P w K mg base 3 f1 fd1 ["whole"] B1s)(R:C9j K mg CR CE):sI P w K mg base 4 f fd ["self"] (A5j CR):=by
 refine A8.up (F.ok D2f (fun vs H Q E h=>?_) (fun cdv A outer s H vs Q E hr h=>?_))
 . obtain⟨x,t,n,rfl,_⟩:=h
   rfl
 obtain⟨x,t,n,rfl,ra,ht,_,_,k⟩:=h
 have hx:U0 (A1j CX0 P w K mg base ["self"] "Root.first" (A7 A8q) f cdv A outer s H E).nox EKF:=Y0
 refine⟨_,(A5 (B0 (A9 D6 (A9 G9 (C4 dA dB hr hx (A0 (D3 (pv 0) rfl) A3)) (D3 (pv 0) rfl)) A1))),?_⟩
 obtain⟨tn,rfl,ta,tb⟩:=C3y ht
 obtain⟨dx,e⟩:=id ra
 have d2:(0:Int)<2/\(2:Int).natAbs.log2<9000:=⟨by decide,by decide+kernel⟩
 refine⟨_,rfl,x,CR,dx,_,_,rfl,e,R.cl,R.n_top,C4v _ _,tn,rfl,ta,Nat.lt_trans tb (Nat.pow_lt_pow_right (by decide) (by decide)),fun L L1 L2=>?_⟩
 exact⟨_,rfl,x,CR,dx,_,_,rfl,e,R.cl,R.n_power,B5w _ _,_,_,rfl,rfl,_,_,rfl,rfl,d2,k _ H (B5.refl H) (B5z L1 L2 rfl)⟩
theorem scQAt:B7 Q48 Q14 (A7 C3s):=scK
theorem G5s{f f1 f2 f3 CR CE:Addr}(F:Fun K "at" "Root.at" C3s f fd)(dA:Def K mg "ten_to" ["count"] A1k f1 fd1)(dB:sI P w K mg base 2 f1 fd1 ["count"] A1t)
   (dC:Def K mg "part_of" Q20 A7w f2 fd2) (dD:sI P w K mg base 1 f2 fd2 Q20 B3j) (dE:Def K mg "whole_root" ["whole"] B2j f3 fd3) (dF:sI P w K mg base 4 f3 fd3 ["whole"] C4r) (R:C9j K mg CR CE) (O:Own mg):sI P w K mg base 5 f fd Q14 (B9c CR):=by
 refine A8.up (F.ok scQAt (fun vs H Q E h=>?_) (fun cdv A outer s H vs Q E hr h=>?_))
 . obtain⟨x,t,n,p,rfl,_⟩:=h
   rfl
 obtain⟨x,t,n,p,rfl,⟨dx,e⟩,ht,h1,h2,k⟩:=h
 have hx:U0 (A1j CX0 P w K mg base Q48 "Root.at" (A7 C3s) f cdv A outer s H E).nox EKF:=Y0
 refine⟨_,(A4 (D0 (i:=2) scQAt.nd rfl (Or.inl rfl) (A9 U2 (D3 (pv 0) rfl) (A9 G0 A1 (pv 1)))) (A4 (D0 (i:=3) scQAt.nd rfl (Or.inl rfl) (A9 G0 (D3 (pv 0) rfl) (C4 dA dB hr hx (A0 (G7 (A0b rfl) (by rfl) O.max_ boot_max (A0 (pv 2) (A0 A1 A3))) A3)))) (A4 (D0 (i:=4) scQAt.nd rfl (Or.inl rfl) (C4 dA dB hr hx (A0 (G7 (A0b rfl) (by rfl) O.max_ boot_max (A0 (A4z A2c (pv 2)) (A0 A1 A3))) A3))) (A4 (D0 (i:=5) scQAt.nd rfl (Or.inl rfl) (C4 dE dF hr hx (A0 (A9 D6 (pv 3) (pv 4)) A3))) (A4 (D9 (B9 D4 (A9 G0 (A9 G0 (pv 5) (pv 5)) (pv 4)) (pv 3) (B8 _)) (A5 (B0 (U4 (A0 (pv 5) (A0 A1 A3))))) C6) (A5 (B0 (U4 (A0 (pv 5) (A0 (C4 dC dD hr hx (A0 (A9 G0 A1 (pv 3)) (A0 (A9 G0 (A9 G0 (A9 G9 (A9 G0 A1 (pv 5)) A1) (A9 G9 (A9 G0 A1 (pv 5)) A1)) (pv 4)) A3))) A3)))))))))),?_⟩
 have z2:2<=sizeLine:=C7 (by decide)
 have mC':∀z n:Int, -(2^64)<n ->n<2^64 ->IntMulOk n z:=fun z n a b=>A2w.ok (.inl ⟨a,b⟩)
 have oT:IntMulOk t (A2 (n-2*p)):=Z5 (Nat.lt_of_lt_of_le ht.small (B2h (by decide))) (Nat.lt_of_lt_of_le (A2r h2) (B2h (by decide)))
 refine⟨_,rfl,x,CR,dx,_,_,rfl,e,R.cl,R.n_power,B5w _ _,_,rfl,_,_,rfl,rfl,mC' _ _ (by decide) (by decide),_,_,rfl,rfl,?_⟩
 refine⟨_,rfl,x,CR,dx,_,_,rfl,e,R.cl,R.n_top,C4v _ _,_,rfl,_,_,rfl,(n-2*p).toNat,congrArg (fun z=>[V.int z]) (G1b (n-2*p)),by omega,_,_,rfl,rfl,oT,?_⟩
 refine⟨_,rfl,_,rfl,_,_,rfl,(-(n-2*p)).toNat,congrArg (fun z=>[V.int z]) (G1b (-(n-2*p))),by omega,?_⟩
 have lp:0<A2 (-(n-2*p)):=C8 _
 have ll:(A2 (-(n-2*p))).natAbs.log2<9000:=Nat.lt_trans (A0r (A2r (by omega)) (by decide)) (by decide)
 have hp:0<t*A2 (n-2*p):=Int.mul_pos (by have:=ht.1;omega) (C8 _)
 have hs:=B3v ht h2
 obtain⟨hi,ehi⟩:=Int.eq_ofNat_of_zero_le (Int.le_of_lt hp)
 obtain⟨lo,elo⟩:=Int.eq_ofNat_of_zero_le (Int.le_of_lt lp)
 have b300:hi/lo<10^300:=by
   have a:hi<2^903:=by rw[ehi,Int.natAbs_natCast] at hs;exact hs
   exact Nat.lt_of_le_of_lt (Nat.div_le_self _ _) (Nat.lt_trans a (by decide+kernel))
 refine⟨_,rfl,_,rfl,_,_,rfl,rfl,⟨lp,ll⟩,hi/lo,(by show [V.int (t*A2 (n-2*p)/A2 (-(n-2*p)))]=_;rw[ehi,elo];rfl),b300,fun r r1 r2=>?_⟩
 have lo0:0<lo:=by omega
 have rt:A1p t (n-2*p) (r:Int):=by
   refine⟨by omega,?_,?_⟩
   . rw[ehi,elo]
     have:=(Nat.le_div_iff_mul_le lo0).mp r1
     exact Int.ofNat_le.mpr this
   . rw[ehi,elo]
     have:=(Nat.div_lt_iff_lt_mul lo0).mp r2
     exact Int.ofNat_lt.mpr this
 have m:=C6a ht h1 h2 rt
 refine⟨_,rfl,_,rfl,_,_,rfl,rfl,m.o2,_,rfl,_,_,rfl,rfl,m.o3,_,rfl,rfl,_,rfl,G8 (fun he=>?_) (fun hn=>?_)⟩
 . have he:(r:Int)*r*A2 (-(n-2*p))=t*A2 (n-2*p):=by injection he
   refine⟨_,rfl,z2,fun q nq=>k r q _ (B5.upd nq) nq rt ?_⟩
   rw[A6]
   unfold A8j
   rw[if_pos he]
 have hn:¬(r:Int)*r*A2 (-(n-2*p))=t*A2 (n-2*p):=fun z=>hn (congrArg V.int z)
 have m0:0<(2*(r:Int)+1)*(2*(r:Int)+1)*A2 (-(n-2*p)):=Int.mul_pos (Int.mul_pos (by omega) (by omega)) lp
 refine⟨_,rfl,_,rfl,_,_,rfl,rfl,mC' _ _ (by decide) (by decide),_,rfl,_,_,rfl,rfl,mC' _ _ (by decide) (by decide),_,_,rfl,rfl,_,rfl,_,_,rfl,rfl,mC' _ _ (by decide) (by decide),_,_,rfl,rfl,_,_,rfl,rfl,m.o6,_,rfl,_,_,rfl,rfl,m.o7,2*(t*A2 (n-2*p)),(2*(r:Int)+1)*(2*(r:Int)+1)*A2 (-(n-2*p)),?_,by omega,m0,z2,fun q nq=>k r q _ (B5.upd nq) nq rt ?_⟩
 . show [V.int (4*(t*A2 (n-2*p))),_]=[V.int (2*(2*(t*A2 (n-2*p)))),_]
   rw[show 2*(2*(t*A2 (n-2*p)))=4*(t*A2 (n-2*p)) by omega]
   rfl
 rw[A6,G1r hp]
 unfold A8j
 rw[if_neg hn]
theorem C5e:∀n:Nat,∃r:Nat,r*r<=n/\n<(r+1)*(r+1)
 |0=>⟨0,by decide,by decide⟩
 | n + 1=>by
   obtain⟨r,h1,h2⟩:=C5e n
   by_cases h:n+1<(r+1)*(r+1)
   . exact⟨r,by omega,h⟩
   . refine⟨r+1,by omega,?_⟩
     have:(r+1+1)*(r+1+1)=(r+1)*(r+1)+2*(r+1)+1:=by
       simp only[Nat.add_mul,Nat.mul_add]
       omega
     omega
theorem G2g{t s:Int}(ht:1<=t):∃w,A1p t s w:=by
 obtain⟨hi,ehi⟩:=Int.eq_ofNat_of_zero_le (Int.le_of_lt (Int.mul_pos (show 0<t by omega) (C8 s)))
 obtain⟨lo,elo⟩:=Int.eq_ofNat_of_zero_le (Int.le_of_lt (C8 (-s)))
 have lo0:0<lo:=by have:=C8 (-s);omega
 obtain⟨r,r1,r2⟩:=C5e (hi/lo)
 refine⟨r,by omega,?_,?_⟩
 . rw[ehi,elo]
   exact Int.ofNat_le.mpr ((Nat.le_div_iff_mul_le lo0).mp r1)
 rw[ehi,elo]
 exact Int.ofNat_lt.mpr ((Nat.div_lt_iff_lt_mul lo0).mp r2)
noncomputable def whQ (t s:Int):Int:=by
 classical exact if h:∃w,A1p t s w then Classical.choose h else 0
theorem A2n{t s:Int}(ht:1<=t):A1p t s (whQ t s):=by
 have h:=G2g (s:=s) ht
 unfold whQ
 rw[dif_pos h]
 exact Classical.choose_spec h
theorem C1k{t s w:Int}(ht:1<=t)(h:A1p t s w):whQ t s=w:=G1c (A2n ht) h
noncomputable def rooE (CR:Addr) (t n L:Int):Exa:=⟨fun H x=>B1a CR H x t n,L,fun q=>whQ t (n-2*q),fun q=>A8j t (n-2*q) (whQ t (n-2*q)),fun q=> -200<=n-2*q/\n-2*q<=200⟩
theorem J6q{CR:Addr}{t n L:Int}(ht:SzQ t)(n1: -900<=n)(n2:n<=900)(hL:A3w t (n-2*L)):ExV CR (A5j CR) (B9c CR) (rooE CR t n L) where
 same:=fun _ _ _ h s=>B1a.same h s
 ins:=fun _ _ h=>by
   obtain⟨dx,e⟩:=h
   exact⟨dx,_,e,B8d _ _,C7y _ _⟩
 first:=fun H x Q E h k=>⟨x,t,n,rfl,h,ht,n1,n2,fun f H' s ld=>by
   have ef:f=L:=D0y (show 0<t by have:=ht.1;omega) ld hL
   rw[ef]
   exact k H' s⟩
 at_:=fun H x q Q E h ok k=>⟨x,t,n,q,rfl,h,ht,ok.1,ok.2,fun wh p H' s np rt ep=>by
   have e:=C1k ht.1 rt
   refine k p H' s np ?_
   show H' p=some (.tup [.int (whQ t (n-2*q)),.int (A8j t (n-2*q) (whQ t (n-2*q)))])
   rw[e]
   exact ep⟩
theorem J7h{CR CE g1 g2:Addr}(RM:J3w P w K mg base CR g1 g2 gd1 gd2)(R:C9j K mg CR CE):ExM P w K mg base CR g1 g2 gd1 gd2 (A5j CR) (B9c CR):=⟨R.cl,RM.m1,RM.g1,RM.b1,RM.m2,RM.g2,RM.b2⟩
theorem B3m{v:Cv}{L n:Int}(ok:v.Ok)(h1: -1000<=n-L)(h2:n-L<=1000)(n1: -400<=n)(n2:n<=400): -1500<=n-v.fin L/\n-v.fin L<=1500:=by
 have:=ok.r1;have:=ok.r2;have:=ok.l1;have:=ok.l2
 unfold Cv.fin A3t
 split<;>omega
theorem A4t{t b s:Int}(ht:Sz t)(hb:Sz b)(h:A0m t b s): -1000<=s/\s<=1000:=by
 have e:=C8 1000
 refine⟨?_,?_⟩
 . apply Classical.byContradiction
   intro hs
   have z:A2 s=1:=by unfold A2;rw[show s.toNat=0 by omega];rfl
   have g:A2 1000<=A2 (-s):=V3 (by omega)
   have a:=h.1
   rw[z,Int.mul_one] at a
   have:1*A2 (-s)<=b*A2 (-s):=Int.mul_le_mul_of_nonneg_right hb.1 (Int.le_of_lt (C8 _))
   have:=ht.2
   omega
 apply Classical.byContradiction
 intro hs
 have z:A2 (-s)=1:=by unfold A2;rw[show(-s).toNat=0 by omega];rfl
 have g:A2 1001<=A2 s:=V3 (by omega)
 have e1:A2 1001=10*A2 1000:=by
   unfold A2
   rw[show(1001:Int).toNat=(1000:Int).toNat+1 by decide,Nat.pow_succ,Nat.mul_comm]
   rfl
 have a:=h.2
 rw[z,Int.mul_one] at a
 have:1*A2 s<=t*A2 s:=Int.mul_le_mul_of_nonneg_right ht.1 (Int.le_of_lt (C8 _))
 have:=hb.2
 omega
theorem A4h:Sz 1:=⟨by decide,by
 have:A2 1<=A2 1000:=V3 (by decide)
 have e:A2 1=10:=rfl
 omega⟩
theorem A9x{f:Int}(h0:0<=f)(h:f≠0)(h1:f<=10^60-1):Sz f:=by
 refine⟨by omega,?_⟩
 have:A2 60<=A2 1000:=V3 (by decide)
 have e:A2 60=10^60:=by decide+kernel
 omega
noncomputable def A5b:Nm:=⟨.none,0,0,0⟩
noncomputable def A1c (v:Cv) (s i:Int):Nm:=⟨.plain,s,0,B4k (A3t i (v.l-v.r+1)) v.m⟩
theorem A1h.same{CN CC CT:Addr}{H H1:Hp}{c:Addr}{v:Cv}{b:Addr}{xs ys:List Str}{res:Nm×List Str}{Q:VK}{E:XK}(k:A1h CN CC CT H c v b xs ys res Q E)(s:B5 H H1):A1h CN CC CT H1 c v b xs ys res Q E:=
 ⟨fun hn m a' H' nw x=>k.1 hn m a' H' (C4g s nw) ((Exc.of s).trans x),fun z hz a' d H' nw x=>k.2 z hz a' d H' (C4g s nw) ((Exc.of s).trans x)⟩
theorem G3c(tr:List Str):hit tr []=none:=by
 unfold hit
 rw[List.find?_eq_none]
 simp
theorem A1h.calm{CN CC CT:Addr}{H H1:Hp}{c n a:Addr}{v:Cv}{b:Addr}{xs ys:List Str}{x:Nm}{Q:VK}{E:XK}(k:A1h CN CC CT H c v b xs ys (x,[]) Q E)(ox:V1 xs=xs)(s:B5 H H1)(hc:Y2 CC H c v a b xs ys)(hn:V6 CN H1 n x):Q (.ref n) H1:=
 k.1 (G3c _) n a H1 (J6u hc) (Exc.of s) (by show Y2 CC H1 c v a b (V1 (xs++ [])) ys;rw[List.append_nil,ox];exact hc.same s) hn
deriving instance DecidableEq for Kd
theorem A4u(n:Nat)(h:1<=n):∃L:Nat,10^L<=n/\n<10^(L+1):=by
 induction n using Nat.strongRecOn with
 | ind n ih=>
   by_cases h10:n<10
   . exact⟨0,by simpa using h,by simpa using h10⟩
   . obtain⟨L,a,b⟩:=ih (n/10) (by omega) (by omega)
     refine⟨L+1,?_,?_⟩
     . rw[Nat.pow_succ];omega
     . rw[Nat.pow_succ];omega
theorem A2y{n j:Nat}(h1:n<10^(j+1))(h2:10^j<=n):V0 (n:Int)=(j:Int)+1:=by
 unfold V0
 have e:(Str.ofString (toString (n:Int))).length=(Nat.toDigits 10 n).length:=by
   have:=congrArg List.length (KIN.signs_num n)
   rw[List.length_map] at this
   rw[<-this];rfl
 rw[e]
 have a:(Nat.toDigits 10 n).length<=j+1:=digits10_le (by omega) h1
 have b:j+1<=(Nat.toDigits 10 n).length:=digits10_ge h2
 omega
theorem B3t{c A B:Prop} [Decidable c] (h:¬c) (a:A):if(!decide c)=true then A else B:=by rw[decide_eq_false h];exact Y3 a
noncomputable def SzL (t:Int):Prop:=1<=t/\t<A2 500
theorem SzL.nat{t:Int}(h:SzL t):∃n:Nat,t=(n:Int)/\1<=n/\n<10^500:=by
 obtain⟨n,rfl⟩:=Int.eq_ofNat_of_zero_le (show 0<=t by have:=h.1;omega)
 exact⟨n,rfl,Int.ofNat_le.mp h.1,Int.ofNat_lt.mp h.2⟩
theorem SzL.sz{t:Int}(h:SzL t):Sz t:=⟨h.1,Int.lt_of_lt_of_le h.2 (V3 (by decide))⟩
theorem SzL.log{t:Int}(h:SzL t):t.natAbs.log2<1920:=by
 obtain⟨n,rfl,_,hn⟩:=h.nat
 have:n<2^1670:=Nat.lt_of_lt_of_le (Nat.lt_of_lt_of_le hn (Nat.pow_le_pow_right (by decide) (by decide:500<=3*167))) (C0d 167)
 exact Nat.lt_trans (A0r (i:=(n:Int)) (k:=1670) (by rw[Int.natAbs_natCast];exact this) (by decide)) (by decide)
noncomputable abbrev A6d:Stmt:=(top 18)
noncomputable abbrev B5e:Stmt:=(top 72)
noncomputable abbrev B1j:Stmt:=(top 73)
noncomputable abbrev A8y:Stmt:=(top 74)
theorem A8.never{P:Program}{w:World}{K:Frag}{mg:Str ->Option Value}{base:Heap}{CX:CXT}{k:Nat}{ps:List Str}:A8 P w K mg base CX k f fd ps (fun _ _ _ _=>False):=⟨fun _ _ _ _ h=>h.elim,fun _ _ _ _ _ _ _ _ _ _ _ _ _ h=>h.elim⟩
noncomputable def A0e (a b:Int):Int:=if a=b then 0 else 1
theorem A9y(a b:Int):0<=A0e a b/\A0e a b<=1:=by unfold A0e;split<;>decide
noncomputable def Two (CN:Addr) (H:Hp) (n1 n2:Addr) (x1 x2:Nm):Prop:=V6 CN H n1 x1/\V6 CN H n2 x2
theorem Two.same{CN:Addr}{H H':Hp}{n1 n2:Addr}{x1 x2:Nm}(h:Two CN H n1 n2 x1 x2)(e:B5 H H'):Two CN H' n1 n2 x1 x2:=⟨h.1.same e,h.2.same e⟩
noncomputable def A7z (CN:Addr):Sp:=fun vs H Q _=>∃n1 n2 x1 x2,vs=[.ref n1,.ref n2]/\Two CN H n1 n2 x1 x2/\Q (.int (A0e x1.s x2.s)) H
theorem C9p:B7 Q3 Q3 (A7 A6d):=scK
theorem C7b{f CN:Addr}(D:Def K mg "unlike_sign" Q3 A6d f fd)(N:Num K mg CN):sI P w K mg base 1 f fd Q3 (A7z CN):=by
 refine D.F.okE C9p (fun vs H Q E h=>?_) (fun X cdv A outer s H vs Q E hX hr hx h=>?_)
 . obtain⟨n1,n2,x1,x2,rfl,_⟩:=h
   rfl
 subst hX
 obtain⟨n1,n2,x1,x2,rfl,⟨⟨d1,e1⟩,⟨d2,e2⟩⟩,k⟩:=h
 refine⟨_,(A5 (B0 (V4 (B9 B0x (D3 (pv 0) rfl) (D3 (pv 1) rfl) (B8 _)) A1 A1))),?_⟩
 refine⟨_,rfl,n1,CN,d1,_,_,rfl,e1,N.cl,N.n2,A4c _ _ _ _,_,rfl,n2,CN,d2,_,_,rfl,e2,N.cl,N.n2,A4c _ _ _ _,rfl,_,rfl,?_⟩
 unfold A0e at k
 by_cases h:x1.s=x2.s
 . rw[if_pos h] at k
   exact B0z (congrArg V.int h) k
 rw[if_neg h] at k
 rw[decide_eq_false (fun z=>h (by injection z):¬V.int x1.s=V.int x2.s)]
 exact Y3 k
theorem A5c{z:Str}{n1 n2:Addr}{x1 x2:Nm}(h1:x1.k= .plain)(h2:x2.k= .plain)(hz:Kd.plain.str≠z):([(n1,x1),(n2,x2)].any fun p=>decide (p.2.k.str=z))=false:=by
 simp[h1,h2,hz]
theorem A0d{CN:Addr}{H:Hp}{l n1 n2:Addr}{x1 x2:Nm}(h:Two CN H n1 n2 x1 x2)(hl:H l=some (.lst [.ref n1,.ref n2])):D4j CN H l [(n1,x1),(n2,x2)]:=⟨hl,List.forall_mem_cons.2 ⟨h.1,List.forall_mem_cons.2 ⟨h.2,by simp⟩⟩⟩
noncomputable def B9q (CN:Addr):Sp:=fun vs H Q _=>∃n1 n2 x1 x2,vs=[.ref n1,.ref n2]/\Two CN H n1 n2 x1 x2/\x1.k= .plain/\x2.k= .plain/\∀H',B5 H H' ->Q (.bl false) H'
theorem D1y:B7 Q3 Q3 (A7 B1j):=scK
theorem C6t{f f1 f2 CN:Addr}(D:Def K mg "is_end_by_nought" Q3 B1j f fd)(dB:Def K mg "some_of_kind" Q9 A3d f1 fd1)(dC:sI P w K mg base 1 f1 fd1 Q9 (A2z CN))(dA:Def K mg "is_nought" ["number"] B5e f2 fd2):sI P w K mg base 2 f fd Q3 (B9q CN):=by
 have G_is_nought:sI P w K mg base 1 f2 fd2 ["number"] (fun _ _ _ _=>False):=A8.never
 refine D.F.okE D1y (fun vs H Q E h=>?_) (fun X cdv A outer s H vs Q E hX hr hx h=>?_)
 . obtain⟨n1,n2,x1,x2,rfl,_⟩:=h
   rfl
 subst hX
 obtain⟨n1,n2,x1,x2,rfl,tw,h1,h2,k⟩:=h
 refine⟨_,(A5 (B0 (A2s (C4 dB dC hr hx (A0 (G4 (A0 (pv 0) (A0 (pv 1) A3))) (A0 C5 A3))) (A1d (C0j (C4 dA G_is_nought hr hx (A0 (pv 0) A3)) (A1d (C4 dA G_is_nought hr hx (A0 (pv 1) A3)))))))),?_⟩
 have z2:2<=sizeLine:=C7 (by decide)
 refine⟨_,rfl,_,rfl,z2,fun l nl=>?_⟩
 have u:=B5.upd (o:= .lst [.ref n1,.ref n2]) nl
 refine⟨l,_,_,rfl,A0d (tw.same u) A6,(by show 2<=1000;decide),fun H' s'=>⟨_,rfl,?_⟩⟩
 rw[A5c h1 h2 (by decide+kernel)]
 exact U6 (k H' (u.trans s'))
noncomputable def C9q (x1 x2:Nm):Nm:=⟨.plain,A0e x1.s x2.s,x1.f*x2.f,x1.p+x2.p⟩
noncomputable def D0z (CN:Addr):Sp:=fun vs H Q _=>∃n1 n2 x1 x2,vs=[.ref n1,.ref n2]/\Two CN H n1 n2 x1 x2/\x1.k= .plain/\x2.k= .plain/\IntMulOk x1.f x2.f/\∀n H',H n=none ->B5 H H' ->V6 CN H' n (C9q x1 x2) ->Q (.ref n) H'
theorem scProd:B7 ["one","other","sign"] Q3 (A7 A8y):=scK
theorem G0t{f f1 f2 f3 fI CN CB:Addr}{fd fd1 fd2 fd3 fdI:FuncData}(D:Def K mg "product" Q3 A8y f fd)(dA:Def K mg "some_of_kind" Q9 A3d f1 fd1)(dB:sI P w K mg base 1 f1 fd1 Q9 (A2z CN))(dC:Def K mg "unlike_sign" Q3 A6d f2 fd2)(dD:sI P w K mg base 1 f2 fd2 Q3 (A7z CN))
   (dE:Def K mg "end" ["sign"] C2s f3 fd3) (dF:sI P w K mg base 3 f3 fd3 ["sign"] (B9z K CN CB)) (N:Num K mg CN) (M:A6v P w K mg base CN fI fdI):sI P w K mg base 4 f fd Q3 (D0z CN):=by
 refine D.F.okE scProd (fun vs H Q E h=>?_) (fun X cdv A outer s H vs Q E hX hr hx h=>?_)
 . obtain⟨n1,n2,x1,x2,rfl,_⟩:=h
   rfl
 subst hX
 obtain⟨n1,n2,x1,x2,rfl,tw,h1,h2,hm,k⟩:=h
 refine⟨_,(A4 (D0 (i:=2) scProd.nd rfl (Or.inl rfl) (C4 dC dD hr hx (A0 (pv 0) (A0 (pv 1) A3)))) (A4 (D9 (V5 (C4 dA dB hr hx (A0 (G4 (A0 (pv 0) (A0 (pv 1) A3))) (A0 C5 A3)))) (A5 (B0 (C4 dE dF hr hx (A0 (pv 2) A3)))) C6) (A5 (B0 (A3n M.m (A8.up M.g) hr N.g M.b .nil hx (A0 C5 (A0 (pv 2) (A0 (A9 G0 (D3 (pv 0) rfl) (D3 (pv 1) rfl)) (A0 (A9 G9 (D3 (pv 0) rfl) (D3 (pv 1) rfl)) A3))))))))),?_⟩
 have z2:2<=sizeLine:=C7 (by decide)
 refine⟨_,rfl,_,rfl,n1,n2,x1,x2,rfl,tw,?_⟩
 refine⟨_,rfl,_,rfl,z2,fun l nl=>?_⟩
 have u:=B5.upd (o:= .lst [.ref n1,.ref n2]) nl
 refine⟨l,_,_,rfl,A0d (tw.same u) A6,(by show 2<=1000;decide),fun H' s'=>⟨_,rfl,?_⟩⟩
 rw[A5c h1 h2 (by decide+kernel)]
 refine U6 ?_
 have sm:=u.trans s'
 obtain⟨⟨d1,e1⟩,⟨d2,e2⟩⟩:=tw.same sm
 refine⟨_,rfl,_,rfl,n1,CN,d1,_,_,rfl,e1,N.cl,N.n3,A4n _ _ _ _,_,rfl,n2,CN,d2,_,_,rfl,e2,N.cl,N.n3,A4n _ _ _ _,_,_,rfl,rfl,hm,_,rfl,n1,CN,d1,_,_,rfl,e1,N.cl,N.n4,A2f _ _ _ _,_,rfl,n2,CN,d2,_,_,rfl,e2,N.cl,N.n4,A2f _ _ _ _,_,_,rfl,rfl,?_⟩
 exact B0s fun n H2 nn s2 num=>k n H2 (sm.free nn) (sm.trans s2) num
noncomputable abbrev B4y:Stmt:=(top 58)
noncomputable abbrev B6s:Stmt:=(top 59)
noncomputable abbrev C3t:Stmt:=(top 64)
noncomputable abbrev C6d:Stmt:=(top 65)
noncomputable def G2k (v:Cv) (x1 x2:Nm) (i:Int):Nm×List Str:=
 if x1.k= .end_ then(if x2.k= .end_ then(A5b,["void"]) else(⟨.end_,A0e x1.s x2.s,0,0⟩,[]))
 else if x2.k= .end_ then(A1c v (A0e x1.s x2.s) i,[]) else if x1.f=0 then(A5b,["void"]) else(⟨.end_,A0e x1.s x2.s,0,0⟩,["split"])
noncomputable def A2d (x1 x2:Nm):Prop:=x1.k= .plain/\x2.k= .plain/\x2.f≠0
instance(x1 x2:Nm):Decidable (A2d x1 x2):=by unfold A2d;exact inferInstance
noncomputable def B7b (CN CC CT:Addr):Sp:=fun vs H Q E=>∃c v a b xs ys,vs=[.ref c]/\Y2 CC H c v a b xs ys/\xs.length<=900/\A1h CN CC CT H c v b xs ys (A5b,["void"]) Q E
theorem G7u:B7 ["context"] ["context"] (A7 B4y):=scK
theorem G3t{f f1 CN CC CB CT CW:Addr}{cw:Wy ->Addr}(D:Def K mg "void" ["context"] B4y f fd)(dA:Def K mg "nothing" [] A0z f1 fd1)(dB:sI P w K mg base 3 f1 fd1 [] (A1m CN))(C:A6n P w K mg base CC CB CT CW cw):sI P w K mg base 4 f fd ["context"] (B7b CN CC CT):=by
 refine D.F.okE G7u (fun vs H Q E h=>?_) (fun X cdv A outer s H vs Q E hX hr hx h=>?_)
 . obtain⟨c,v,a,b,xs,ys,rfl,_⟩:=h
   rfl
 subst hX
 obtain⟨c,v,a,b,xs,ys,rfl,hc,lx,k⟩:=h
 obtain⟨fR,fdR,mR,gR,bR⟩:=C.raised
 refine⟨_,(A4 (U9 (A8c (pv 0) C.c.cl mR gR hr bR .nil hx (A0 (G4 (A0 C5 A3)) A3))) (A5 (B0 (A9k dA dB hr hx)))),?_⟩
 have z1:1<=sizeLine:=C7 (by decide)
 obtain⟨dx,e⟩:=hc.ins
 refine⟨_,rfl,c,dx,_,rfl,e,A1u _ _ _ _ _ _,z1,fun p np=>?_⟩
 have u:=B5.upd (o:= .lst [.str "void"]) np
 refine⟨c,v.r,v.y,v.l,v.m,a,b,xs,ys,_,rfl,hc.same u,by omega,.inl ⟨p,["void"],rfl,A6,by decide,by decide+kernel,fun hn a' H' x na ct=>?_,fun t ht a' d H' x na ct nd ed=>?_⟩⟩
 . exact⟨rfl,fun n H2 nn s2 num=>k.1 hn n a' H2 (B8z (u.free na)) ((Exc.of u).trans (x.trans (Exc.of s2))) (A0p.same ct s2) num⟩
 exact k.2 t ht a' d H' (B8z (u.free na)) ((Exc.of u).trans x) ct ed
noncomputable def C5g (CN CC CT:Addr):Sp:=fun vs H Q E=>∃c v a b xs ys,∃sg:Int,vs=[.ref c,.int sg]/\Y2 CC H c v a b xs ys/\xs.length<=900/\0<=sg/\sg<=1/\A1h CN CC CT H c v b xs ys (⟨.end_,sg,0,0⟩,["split"]) Q E
theorem G3r:B7 Q8 Q8 (A7 B6s):=scK
theorem D0d{f f1 CN CC CB CB' CT CW:Addr}{cw:Wy ->Addr}(D:Def K mg "split_to_end" Q8 B6s f fd)(dA:Def K mg "end" ["sign"] C2s f1 fd1)(dB:sI P w K mg base 3 f1 fd1 ["sign"] (B9z K CN CB'))(C:A6n P w K mg base CC CB CT CW cw):sI P w K mg base 4 f fd Q8 (C5g CN CC CT):=by
 refine D.F.okE G3r (fun vs H Q E h=>?_) (fun X cdv A outer s H vs Q E hX hr hx h=>?_)
 . obtain⟨c,v,a,b,xs,ys,sg,rfl,_⟩:=h
   rfl
 subst hX
 obtain⟨c,v,a,b,xs,ys,sg,rfl,hc,lx,s0,s1,k⟩:=h
 obtain⟨fR,fdR,mR,gR,bR⟩:=C.raised
 refine⟨_,(A4 (U9 (A8c (pv 0) C.c.cl mR gR hr bR .nil hx (A0 (G4 (A0 C5 A3)) A3))) (A5 (B0 (C4 dA dB hr hx (A0 (pv 1) A3))))),?_⟩
 have z1:1<=sizeLine:=C7 (by decide)
 obtain⟨dx,e⟩:=hc.ins
 refine⟨_,rfl,c,dx,_,rfl,e,A1u _ _ _ _ _ _,z1,fun p np=>?_⟩
 have u:=B5.upd (o:= .lst [.str "split"]) np
 refine⟨c,v.r,v.y,v.l,v.m,a,b,xs,ys,_,rfl,hc.same u,by omega,.inl ⟨p,["split"],rfl,A6,by decide,by decide+kernel,fun hn a' H' x na ct=>?_,fun t ht a' d H' x na ct nd ed=>?_⟩⟩
 . exact⟨_,rfl,_,rfl,.inl ⟨⟨sg,rfl,s0,s1⟩,fun n H2 nn s2 num=>k.1 hn n a' H2 (B8z (u.free na)) ((Exc.of u).trans (x.trans (Exc.of s2))) (A0p.same ct s2) num⟩⟩
 exact k.2 t ht a' d H' (B8z (u.free na)) ((Exc.of u).trans x) ct ed
noncomputable def D1h (CN:Addr):Sp:=fun vs H Q _=>∃n1 n2 x1 x2,vs=[.ref n1,.ref n2]/\Two CN H n1 n2 x1 x2/\Q (.bl (decide (A2d x1 x2))) H
theorem G8a:B7 Q3 Q3 (A7 C3t):=scK
theorem G3u{f CN:Addr}(D:Def K mg "has_plain_quotient" Q3 C3t f fd)(N:Num K mg CN):sI P w K mg base 1 f fd Q3 (D1h CN):=by
 refine D.F.okE G8a (fun vs H Q E h=>?_) (fun X cdv A outer s H vs Q E hX hr hx h=>?_)
 . obtain⟨n1,n2,x1,x2,rfl,_⟩:=h
   rfl
 subst hX
 obtain⟨n1,n2,x1,x2,rfl,⟨⟨d1,e1⟩,⟨d2,e2⟩⟩,k⟩:=h
 refine⟨_,(A5 (B0 (A2s (G3 D4 (D3 (pv 0) rfl) C5 (B8 _)) (A2s (G3 D4 (D3 (pv 1) rfl) C5 (B8 _)) (A1d (G3 B0x (D3 (pv 1) rfl) A1 (B8 _))))))),?_⟩
 refine⟨_,rfl,n1,CN,d1,_,_,rfl,e1,N.cl,N.n1,A3q _ _ _ _,rfl,_,rfl,G8 (fun h=>?_) (fun h=>?_)⟩
 . have h1:x1.k= .plain:=eqS (b:= .plain) h
   refine⟨_,rfl,n2,CN,d2,_,_,rfl,e2,N.cl,N.n1,A3q _ _ _ _,rfl,_,rfl,G8 (fun h'=>?_) (fun h'=>?_)⟩
   . have h2:x2.k= .plain:=eqS (b:= .plain) h'
     refine⟨_,rfl,n2,CN,d2,_,_,rfl,e2,N.cl,N.n3,A4n _ _ _ _,rfl,?_⟩
     by_cases hf:x2.f=0
     . rw[decide_eq_false (fun z=>z.2.2 hf:¬A2d x1 x2)] at k
       rw[decide_eq_true (congrArg V.int hf)]
       exact k
     . have hp:A2d x1 x2:=⟨h1,h2,hf⟩
       rw[decide_eq_true hp] at k
       rw[decide_eq_false (fun z=>hf (V.int.inj z):¬V.int x2.f=V.int 0)]
       exact k
   . rw[decide_eq_false (fun z=>h' (by rw[z.2.1];rfl):¬A2d x1 x2)] at k
     exact k
 rw[decide_eq_false (fun z=>h (by rw[z.1];rfl):¬A2d x1 x2)] at k
 exact k
noncomputable def D2x (CN CC CT:Addr):Sp:=fun vs H Q E=>∃c v a b xs ys n1 n2 x1 x2,∃i:Int,vs=[.ref c,.ref n1,.ref n2,.int i]/\Y2 CC H c v a b xs ys/\v.Ok/\xs.length<=900/\V1 xs=xs/\Two CN H n1 n2 x1 x2/\A1h CN CC CT H c v b xs ys (G2k v x1 x2 i) Q E
theorem scOddQ:B7 ["context","one","other","ideal","sign"] Q41 (A7 C6d):=scK
theorem G1a{f f1 f2 f3 f4 f5 CN CC CB' CT:Addr}(D:Def K mg "odd_quotient" Q41 C6d f fd)(dC:Def K mg "unlike_sign" Q3 A6d f1 fd1)(dD:sI P w K mg base 1 f1 fd1 Q3 (A7z CN))
   (dA:Def K mg "void" ["context"] B4y f2 fd2) (dB:sI P w K mg base 4 f2 fd2 ["context"] (B7b CN CC CT)) (dE:Def K mg "end" ["sign"] C2s f3 fd3) (dF:sI P w K mg base 3 f3 fd3 ["sign"] (B9z K CN CB'))
   (dG:Def K mg "nought" Q11 A1v f4 fd4) (dH:sI P w K mg base 3 f4 fd4 Q11 (A2t CN CC)) (dJ:Def K mg "split_to_end" Q8 B6s f5 fd5) (dL:sI P w K mg base 4 f5 fd5 Q8 (C5g CN CC CT)) (N:Num K mg CN):
   sI P w K mg base 5 f fd Q41 (D2x CN CC CT):=by
 refine D.F.okE scOddQ (fun vs H Q E h=>?_) (fun X cdv A outer s H vs Q E hX hr hx h=>?_)
 . obtain⟨c,v,a,b,xs,ys,n1,n2,x1,x2,i,rfl,_⟩:=h
   rfl
 subst hX
 obtain⟨c,v,a,b,xs,ys,n1,n2,x1,x2,i,rfl,hc,ok,lx,ox,tw,k⟩:=h
 refine⟨_,(A4 (D0 (i:=4) scOddQ.nd rfl (Or.inl rfl) (C4 dC dD hr hx (A0 (pv 1) (A0 (pv 2) A3)))) (A4 (D9 (B9 D4 (D3 (pv 1) rfl) C5 (B8 _)) (A5 (B0 (V4 (B9 D4 (D3 (pv 2) rfl) C5 (B8 _)) (C4 dA dB hr hx (A0 (pv 0) A3)) (C4 dE dF hr hx (A0 (pv 4) A3))))) C6) (A4 (D9 (B9 D4 (D3 (pv 2) rfl) C5 (B8 _)) (A5 (B0 (C4 dG dH hr hx (A0 (pv 0) (A0 (pv 4) (A0 (pv 3) A3)))))) C6) (A5 (B0 (V4 (B9 D4 (D3 (pv 1) rfl) A1 (B8 _)) (C4 dA dB hr hx (A0 (pv 0) A3)) (C4 dJ dL hr hx (A0 (pv 0) (A0 (pv 4) A3))))))))),?_⟩
 have us:=A9y x1.s x2.s
 unfold G2k at k
 refine⟨_,rfl,_,rfl,n1,n2,x1,x2,rfl,tw,?_⟩
 obtain⟨⟨d1,e1⟩,⟨d2,e2⟩⟩:=id tw
 refine⟨_,rfl,n1,CN,d1,_,_,rfl,e1,N.cl,N.n1,A3q _ _ _ _,rfl,_,rfl,G8 (fun h=>?_) (fun h=>?_)⟩
 . have h1:x1.k= .end_:=eqS (b:= .end_) h
   rw[if_pos h1] at k
   refine⟨_,rfl,n2,CN,d2,_,_,rfl,e2,N.cl,N.n1,A3q _ _ _ _,rfl,_,rfl,G8 (fun h'=>?_) (fun h'=>?_)⟩
   . have h2:x2.k= .end_:=eqS (b:= .end_) h'
     rw[if_pos h2] at k
     exact⟨_,rfl,c,v,a,b,xs,ys,rfl,hc,lx,k⟩
   . have h2:x2.k≠ .end_:=neS (b:= .end_) h'
     rw[if_neg h2] at k
     exact⟨_,rfl,_,rfl,.inl ⟨⟨_,rfl,us.1,us.2⟩,fun n H' nn s' num=>k.calm ox s' hc num⟩⟩
 have h1:x1.k≠ .end_:=neS (b:= .end_) h
 rw[if_neg h1] at k
 refine⟨_,rfl,n2,CN,d2,_,_,rfl,e2,N.cl,N.n1,A3q _ _ _ _,rfl,_,rfl,G8 (fun h'=>?_) (fun h'=>?_)⟩
 . have h2:x2.k= .end_:=eqS (b:= .end_) h'
   rw[if_pos h2] at k
   exact⟨_,rfl,_,rfl,_,rfl,c,v,a,b,xs,ys,A0e x1.s x2.s,i,rfl,hc,fun n H' nn s' num=>k.calm ox s' hc num⟩
 have h2:x2.k≠ .end_:=neS (b:= .end_) h'
 rw[if_neg h2] at k
 refine⟨_,rfl,n1,CN,d1,_,_,rfl,e1,N.cl,N.n3,A4n _ _ _ _,rfl,_,rfl,G8 (fun h3=>?_) (fun h3=>?_)⟩
 . have h3:x1.f=0:=V.int.inj h3
   rw[if_pos h3] at k
   exact⟨_,rfl,c,v,a,b,xs,ys,rfl,hc,lx,k⟩
 have h3:¬x1.f=0:=fun z=>h3 (congrArg V.int z)
 rw[if_neg h3] at k
 exact⟨_,rfl,_,rfl,c,v,a,b,xs,ys,_,rfl,hc,lx,us.1,us.2,k⟩
theorem B9s{n1 n2:Addr}{x1 x2:Nm}:([(n1,x1),(n2,x2)].any fun p=>decide (p.2.k.str=("none":Str)))=decide (x1.k= .none\/x2.k= .none):=by
 have q:∀k:Kd,decide (k.str=("none":Str))=decide (k= .none):=fun k=>by cases k<;>decide+kernel
 simp[q]
noncomputable abbrev C4k:Stmt:=(top 62)
noncomputable def C5n (v:Cv) (x1 x2:Nm) (L:Int):Nm×List Str:=
 if x1.k= .none\/x2.k= .none then(A5b,[])
 else if A2d x1 x2 then(if x1.f=0 then(A1c v (A0e x1.s x2.s) (x1.p-x2.p),[]) else A4j v (A0e x1.s x2.s) x1.f x2.f (x1.p-x2.p) L (x1.p-x2.p))
 else G2k v x1 x2 (v.l-v.r+1)
noncomputable def D2t (CN CC CT:Addr):Sp:=fun vs H Q E=>∃c v a b xs ys n1 n2 x1 x2 L,vs=[.ref c,.ref n1,.ref n2]/\Y2 CC H c v a b xs ys/\v.Ok/\xs.length<=900/\V1 xs=xs/\Two CN H n1 n2 x1 x2/\x1.Ok/\x2.Ok/\
 (A2d x1 x2 ->x1.f≠0 ->A0m x1.f x2.f (x1.p-x2.p-L))/\A1h CN CC CT H c v b xs ys (C5n v x1 x2 L) Q E
theorem scOver:B7 ["context","one","other","sign","ideal"] Q0 (A7 C4k):=scK
theorem G1j{f f1 f2 f3 f4 f5 f6 f7 f8 fR CN CC CB CB' CT CW CR CE:Addr}{cw:Wy ->Addr}{fd fd1 fd2 fd3 fd4 fd5 fd6 fd7 fd8 fdR:FuncData}{d0:Value}{gP:List Value ->List Value ->List Value}{vP:List V ->List V ->List V}(D:Def K mg "over" Q0 C4k f fd)(dA:Def K mg "need_numbers" ["things"] A4s f1 fd1)(dB:sI P w K mg base 2 f1 fd1 ["things"] (A5u K CN CB'))
   (dC:Def K mg "some_of_kind" Q9 A3d f2 fd2) (dD:sI P w K mg base 1 f2 fd2 Q9 (A2z CN)) (dE:Def K mg "has_plain_quotient" Q3 C3t f3 fd3) (dF:sI P w K mg base 1 f3 fd3 Q3 (D1h CN))
   (dG:Def K mg "odd_quotient" Q41 C6d f4 fd4) (dH:sI P w K mg base 5 f4 fd4 Q41 (D2x CN CC CT)) (dJ:Def K mg "unlike_sign" Q3 A6d f5 fd5) (dL:sI P w K mg base 1 f5 fd5 Q3 (A7z CN)) (dM:Def K mg "nought" Q11 A1v f6 fd6) (dN:sI P w K mg base 3 f6 fd6 Q11 (A2t CN CC))
   (dP:Def K mg "settled" Q12 A1z f7 fd7) (dQ:sI P w K mg base 6 f7 fd7 Q12 (A1n CN CC CT CR)) (dS:Def K mg "nothing" [] A0z f8 fd8) (dU:sI P w K mg base 3 f8 fd8 [] (A1m CN))
   (C:A6n P w K mg base CC CB CT CW cw) (N:Num K mg CN) (MR:C1c P w K mg base CR fR fdR d0 gP vP) (R:B8w K mg CR CE):sI P w K mg base 7 f fd Q0 (D2t CN CC CT):=by
 refine D.F.okE scOver (fun vs H Q E h=>?_) (fun X cdv A outer s H vs Q E hX hr hx h=>?_)
 . obtain⟨c,v,a,b,xs,ys,n1,n2,x1,x2,L,rfl,_⟩:=h
   rfl
 subst hX
 obtain⟨c,v,a,b,xs,ys,n1,n2,x1,x2,L,rfl,hc,ok,lx,ox,tw,o1,o2,hL,k⟩:=h
 obtain⟨fL,fdL,mL,gL,bL⟩:=C.low
 refine⟨_,(A4 (U9 (C4 dA dB hr hx (A0 (G4 (A0 (pv 1) (A0 (pv 2) A3))) A3))) (A4 (D9 (V5 (C4 dC dD hr hx (A0 (G4 (A0 (pv 1) (A0 (pv 2) A3))) (A0 C5 A3)))) (A5 (B0 (A9k dS dU hr hx))) C6) (A4 (D9 (A3c (V5 (C4 dE dF hr hx (A0 (pv 1) (A0 (pv 2) A3))))) (A5 (B0 (C4 dG dH hr hx (A0 (pv 0) (A0 (pv 1) (A0 (pv 2) (A0 (A0t (pv 0) C.c.cl mL gL hr bL .nil hx) A3))))))) C6) (A4 (D0 (i:=3) scOver.nd rfl (Or.inl rfl) (C4 dJ dL hr hx (A0 (pv 1) (A0 (pv 2) A3)))) (A4 (D0 (i:=4) scOver.nd rfl (Or.inl rfl) (A9 U2 (D3 (pv 1) rfl) (D3 (pv 2) rfl))) (A4 (D9 (B9 D4 (D3 (pv 1) rfl) A1 (B8 _)) (A5 (B0 (C4 dM dN hr hx (A0 (pv 0) (A0 (pv 3) (A0 (pv 4) A3)))))) C6) (A5 (B0 (C4 dP dQ hr hx (A0 (pv 0) (A0 (pv 3) (A0 (A3n MR.m MR.g hr R.g MR.b3 .nil hx (A0 (D3 (pv 1) rfl) (A0 (D3 (pv 2) rfl) (A0 (pv 4) A3)))) (A0 (pv 4) A3))))))))))))),?_⟩
 have z2:2<=sizeLine:=C7 (by decide)
 unfold C5n at k
 refine⟨_,rfl,_,rfl,z2,fun l nl=>?_⟩
 have u:=B5.upd (o:= .lst [.ref n1,.ref n2]) nl
 refine⟨l,[(n1,x1),(n2,x2)],rfl,(A0d (tw.same u) A6).n,.inl ⟨A6,?_⟩⟩
 refine⟨_,rfl,_,rfl,z2,fun l2 nl2=>?_⟩
 have u2:=u.trans (B5.upd (o:= .lst [.ref n1,.ref n2]) nl2)
 refine⟨l2,_,_,rfl,A0d (tw.same u2) A6,(by show 2<=1000;decide),fun H3 s3=>⟨_,rfl,?_⟩⟩
 rw[B9s]
 have sm3:=u2.trans s3
 have tw3:=tw.same sm3
 have hc3:=hc.same sm3
 refine G8 (fun hn=>?_) (fun hn=>?_)
 . rw[if_pos hn] at k
   exact⟨rfl,fun n H' nn s' num=>k.calm ox (sm3.trans s') hc num⟩
 rw[if_neg hn] at k
 refine⟨_,rfl,_,rfl,n1,n2,x1,x2,rfl,tw3,_,rfl,?_⟩
 by_cases hq:A2d x1 x2
 . rw[if_pos hq] at k
   rw[decide_eq_true hq]
   refine U6 ?_
   refine⟨_,rfl,_,rfl,n1,n2,x1,x2,rfl,tw3,?_⟩
   obtain⟨⟨d1,e1⟩,⟨d2,e2⟩⟩:=id tw3
   refine⟨_,rfl,n1,CN,d1,_,_,rfl,e1,N.cl,N.n4,A2f _ _ _ _,_,rfl,n2,CN,d2,_,_,rfl,e2,N.cl,N.n4,A2f _ _ _ _,_,_,rfl,rfl,?_⟩
   refine⟨_,rfl,n1,CN,d1,_,_,rfl,e1,N.cl,N.n3,A4n _ _ _ _,rfl,_,rfl,G8 (fun hf=>?_) (fun hf=>?_)⟩
   . have hf:x1.f=0:=V.int.inj hf
     rw[if_pos hf] at k
     exact⟨_,rfl,_,rfl,_,rfl,c,v,a,b,xs,ys,A0e x1.s x2.s,x1.p-x2.p,rfl,hc3,fun n H' nn s' num=>k.calm ox (sm3.trans s') hc num⟩
   . have hf:¬x1.f=0:=fun z=>hf (congrArg V.int z)
     rw[if_neg hf] at k
     have f10:=o1.f0;have f11:=o1.f1;have f20:=o2.f0;have f21:=o2.f1
     have p10:=o1.p0;have p11:=o1.p1;have p20:=o2.p0;have p21:=o2.p1
     have z1:Sz x1.f:=A9x f10 hf f11
     have z3:Sz x2.f:=A9x f20 hq.2.2 f21
     have hl:=hL hq hf
     have ls:=A4t z1 z3 hl
     have fn:=B3m (v:=v) ok ls.1 ls.2 (by omega) (by omega)
     refine⟨_,rfl,_,rfl,_,rfl,n1,CN,d1,_,_,rfl,e1,N.cl,N.n3,A4n _ _ _ _,_,rfl,n2,CN,d2,_,_,rfl,e2,N.cl,N.n3,A4n _ _ _ _,_,rfl,fun q dq m1 m2 me=>B9d m1 m2 me fun H4 s4 ra=>⟨rfl,?_⟩⟩
     have sm4:=sm3.trans s4
     have us:=A9y x1.s x2.s
     exact⟨_,rfl,c,v,a,b,xs,ys,q,x1.f,x2.f,x1.p-x2.p,L,A0e x1.s x2.s,x1.p-x2.p,rfl,hc.same sm4,ok,lx,ra,z1,z3,hl,fn.1,fn.2,us.1,us.2,k.same sm4⟩
 rw[if_neg hq] at k
 rw[decide_eq_false hq]
 refine Y3 ?_
 obtain⟨dx,e⟩:=hc3.ins
 refine⟨_,rfl,_,rfl,_,rfl,_,rfl,c,dx,_,rfl,e,A3f _ _ _ _ _ _,c,v.r,v.y,v.l,v.m,a,b,_,_,rfl,hc3,?_⟩
 exact⟨c,v,a,b,xs,ys,n1,n2,x1,x2,_,rfl,hc3,ok,lx,ox,tw3,k.same sm3⟩
noncomputable abbrev A4k:Stmt:=(top 66)
noncomputable def V8 (x1 x2:Nm):Int:=B4k x1.p x2.p
noncomputable def Z2 (x:Nm) (q:Int):Int:=x.f*A2 (x.p-q)
noncomputable def B5k (x:Nm) (q:Int):Int:=if x.s=1 then -Z2 x q else Z2 x q
noncomputable def A0a (x1 x2:Nm):Int:=Z2 x1 (V8 x1 x2)/Z2 x2 (V8 x1 x2)
theorem B0a{x:Nm}{q:Int}(ok:x.Ok):0<=Z2 x q:=Int.mul_nonneg ok.f0 (Int.le_of_lt (C8 _))
theorem A3j{x:Nm}{q:Int}(ok:x.Ok):(if B5k x q<0 then -B5k x q else B5k x q)=Z2 x q:=by
 have h:=B0a (q:=q) ok
 unfold B5k
 by_cases hs:x.s=1
 . rw[if_pos hs]
   split<;>omega
 rw[if_neg hs]
 split<;>omega
theorem B6e(x1 x2:Nm):V8 x1 x2<=x1.p/\V8 x1 x2<=x2.p/\(V8 x1 x2=x1.p\/V8 x1 x2=x2.p):=by
 unfold V8 B4k
 split<;>omega
theorem A6e{x:Nm}{q:Int}(ok:x.Ok)(hf:x.f≠0)(h:x.p-q<=400):SzL (Z2 x q):=by
 have tp:=C8 (x.p-q)
 have f0:=ok.f0
 refine⟨Int.mul_pos (by omega) tp,?_⟩
 have e:A2 (x.p-q)<=A2 400:=V3 (by omega)
 have a:x.f*A2 (x.p-q)<=(10^60-1)*A2 400:=Int.mul_le_mul ok.f1 e (Int.le_of_lt tp) (by decide+kernel)
 exact Int.lt_of_le_of_lt a (by decide+kernel)
noncomputable def A7g (CN:Addr):Sp:=fun vs H Q _=>∃n x,∃q:Int,vs=[.ref n,.int q]/\V6 CN H n x/\x.Ok/\q<=x.p/\x.p-q<=400/\Q (.int (B5k x q)) H
theorem scWholeAt2:B7 Q49 Q13 (A7 A1e):=scK
theorem B9k{f f1 CN:Addr}(D:Def K mg "whole_at" Q13 A1e f fd)(dA:Def K mg "ten_to" ["count"] A1k f1 fd1)(dB:sI P w K mg base 2 f1 fd1 ["count"] A1t)(N:Num K mg CN):sI P w K mg base 3 f fd Q13 (A7g CN):=by
 refine D.F.okE scWholeAt2 (fun vs H Q E h=>?_) (fun X cdv A outer s H vs Q E hX hr hx h=>?_)
 . obtain⟨n,x,q,rfl,_⟩:=h
   rfl
 subst hX
 obtain⟨n,x,q,rfl,num,ok,h0,h1,k⟩:=h
 refine⟨_,(A4 (D0 (i:=2) scWholeAt2.nd rfl (Or.inl rfl) (A9 G0 (D3 (pv 0) rfl) (C4 dA dB hr hx (A0 (A9 U2 (D3 (pv 0) rfl) (pv 1)) A3)))) (A5 (B0 (V4 (B9 D4 (D3 (pv 0) rfl) A1 (B8 _)) (A4z A2c (pv 2)) (pv 2))))),?_⟩
 obtain⟨dn,en⟩:=id num
 have mul:IntMulOk x.f (A2 (x.p-q)):=by
   by_cases z:x.f=0
   . rw[z];exact A2w.ok (.inl ⟨by decide,by decide⟩)
   . exact A4g (A9x ok.f0 z ok.f1) (by omega)
 refine⟨_,rfl,n,CN,dn,_,_,rfl,en,N.cl,N.n3,A4n _ _ _ _,_,rfl,n,CN,dn,_,_,rfl,en,N.cl,N.n4,A2f _ _ _ _,_,rfl,_,_,rfl,rfl,(x.p-q).toNat,(by rw[Int.toNat_of_nonneg (by omega)];rfl),by omega,_,_,rfl,rfl,mul,?_⟩
 unfold B5k at k
 refine⟨_,rfl,n,CN,dn,_,_,rfl,en,N.cl,N.n2,A4c _ _ _ _,rfl,_,rfl,G8 (fun h=>?_) (fun h=>?_)⟩
 . rw[if_pos (V.int.inj h)] at k
   exact⟨_,rfl,_,rfl,k⟩
 rw[if_neg fun z=>h (congrArg V.int z)] at k
 exact⟨_,rfl,k⟩
noncomputable def B0y (CN:Addr):Sp:=fun vs H Q _=>∃n1 n2 x1 x2,vs=[.ref n1,.ref n2]/\Two CN H n1 n2 x1 x2/\x1.Ok/\x2.Ok/\x2.f≠0/\Q (.int (A0a x1 x2)) H
theorem scWholePart:B7 ["one","other","low"] Q3 (A7 A4k):=scK
theorem B6z{f f1 CN:Addr}(D:Def K mg "whole_part" Q3 A4k f fd)(dA:Def K mg "whole_at" Q13 A1e f1 fd1)(dB:sI P w K mg base 3 f1 fd1 Q13 (A7g CN))(N:Num K mg CN)(O:Own mg):sI P w K mg base 4 f fd Q3 (B0y CN):=by
 refine D.F.okE scWholePart (fun vs H Q E h=>?_) (fun X cdv A outer s H vs Q E hX hr hx h=>?_)
 . obtain⟨n1,n2,x1,x2,rfl,_⟩:=h
   rfl
 subst hX
 obtain⟨n1,n2,x1,x2,rfl,tw,o1,o2,hf,k⟩:=h
 refine⟨_,(A4 (D0 (i:=2) scWholePart.nd rfl (Or.inl rfl) (G7 (A0g rfl) (by rfl) O.min_ boot_min (A0 (D3 (pv 0) rfl) (A0 (D3 (pv 1) rfl) A3)))) (A5 (B0 (A9 D6 (G7 A3p (by rfl) O.abs_ boot_abs (A0 (C4 dA dB hr hx (A0 (pv 0) (A0 (pv 2) A3))) A3)) (G7 A3p (by rfl) O.abs_ boot_abs (A0 (C4 dA dB hr hx (A0 (pv 1) (A0 (pv 2) A3))) A3)))))),?_⟩
 obtain⟨⟨d1,e1⟩,⟨d2,e2⟩⟩:=id tw
 have p10:=o1.p0;have p11:=o1.p1;have p20:=o2.p0;have p21:=o2.p1
 obtain⟨b1,b2,b3⟩:=B6e x1 x2
 refine⟨_,rfl,n1,CN,d1,_,_,rfl,e1,N.cl,N.n4,A2f _ _ _ _,_,rfl,n2,CN,d2,_,_,rfl,e2,N.cl,N.n4,A2f _ _ _ _,_,_,rfl,?_⟩
 show D2y _ _ _ [sr n1,sr n2,si (V8 x1 x2)] H
 have hs:=A6e (q:=V8 x1 x2) o2 hf (by omega)
 refine⟨_,rfl,_,rfl,n1,x1,V8 x1 x2,rfl,tw.1,o1,b1,by omega,_,rfl,_,rfl,_,rfl,n2,x2,V8 x1 x2,rfl,tw.2,o2,b2,by omega,_,rfl,_,_,rfl,rfl,?_,?_⟩
 . rw[A3j o2]
   exact⟨hs.1,Nat.lt_trans hs.log (by decide)⟩
 rw[A3j o1,A3j o2]
 exact k
noncomputable abbrev B1k:Stmt:=(top 63)
noncomputable def B3c (CN CC CT:Addr):Sp:=fun vs H Q E=>∃c v a b xs ys n x,∃L:Int,vs=[.ref c,.ref n]/\Y2 CC H c v a b xs ys/\v.Ok/\xs.length<=900/\V1 xs=xs/\V6 CN H n x/\0<=x.s/\x.s<=1/\0<=x.f/\x.f<A2 500/\ -200<=x.p/\x.p<=200/\(x.k= .plain ->x.f≠0 ->A0m x.f 1 (x.p-L))/\A1h CN CC CT H c v b xs ys (A7h v x L) Q E
noncomputable def A0n (x1 x2:Nm):Nm:=⟨.plain,x1.s,Z2 x1 (V8 x1 x2)-A0a x1 x2*Z2 x2 (V8 x1 x2),V8 x1 x2⟩
noncomputable def B4j (x1 x2:Nm):Nm:=if x2.k= .end_ then x1 else A0n x1 x2
noncomputable def reR (v:Cv) (x1 x2:Nm) (L:Int):Nm×List Str:=
 if x1.k= .none\/x2.k= .none then(A5b,[])
 else if x1.k= .end_ then(A5b,["void"])
 else if x2.k= .plain/\x2.f=0 then(A5b,["void"])
 else if x2.k= .end_ then A7h v x1 L
 else if A0a x1 x2>=A2 v.r then(A5b,["void"]) else A7h v (A0n x1 x2) L
noncomputable def D2r (x1 x2:Nm) (L:Int):Prop:=(B4j x1 x2).k= .plain ->(B4j x1 x2).f≠0 ->A0m (B4j x1 x2).f 1 ((B4j x1 x2).p-L)
theorem B6v{x1 x2:Nm}(o1:x1.Ok)(o2:x2.Ok)(hf:x2.f≠0):0<=(A0n x1 x2).f/\(A0n x1 x2).f<A2 500/\ -200<=(A0n x1 x2).p/\(A0n x1 x2).p<=200/\(A0n x1 x2).f=Z2 x1 (V8 x1 x2) % Z2 x2 (V8 x1 x2):=by
 have p10:=o1.p0;have p11:=o1.p1;have p20:=o2.p0;have p21:=o2.p1
 obtain⟨b1,b2,b3⟩:=B6e x1 x2
 have hs:=A6e (q:=V8 x1 x2) o2 hf (by omega)
 have e:Z2 x1 (V8 x1 x2)-A0a x1 x2*Z2 x2 (V8 x1 x2)=Z2 x1 (V8 x1 x2) % Z2 x2 (V8 x1 x2):=by
   unfold A0a
   rw[Int.emod_def,Int.mul_comm]
 have s0:0<Z2 x2 (V8 x1 x2):=hs.1
 have m0:=Int.emod_nonneg (Z2 x1 (V8 x1 x2)) (Int.ne_of_gt s0)
 have m1:=Int.emod_lt_of_pos (Z2 x1 (V8 x1 x2)) s0
 have h2:=hs.2
 unfold A0n
 dsimp only
 rw[e]
 exact⟨m0,by omega,by omega,by omega,rfl⟩
theorem B6g:B7 Q10 Q10 (A7 A3k):=scK
theorem C7z{f f1 f2 f3 fI CN CC CB CB' CT CW CR CE:Addr}{cw:Wy ->Addr}{fd fd1 fd2 fd3 fdI:FuncData}{d0:Value}{gP:List Value ->List Value ->List Value}{vP:List V ->List V ->List V}(D:Def K mg "rounded" Q10 A3k f fd)
   (dA:Def K mg "need_number" ["thing"] A5d f1 fd1) (dB:sI P w K mg base 1 f1 fd1 ["thing"] (A8z K CN CB')) (dC:Def K mg "nought" Q11 A1v f2 fd2) (dD:sI P w K mg base 3 f2 fd2 Q11 (A2t CN CC))
   (dE:Def K mg "settled" Q12 A1z f3 fd3) (dF:sI P w K mg base 6 f3 fd3 Q12 (A1n CN CC CT CR)) (MR:C1c P w K mg base CR fI fdI d0 gP vP) (R:B8w K mg CR CE) (N:Num K mg CN):
   sI P w K mg base 7 f fd Q10 (B3c CN CC CT):=by
 refine D.F.okE B6g (fun vs H Q E h=>?_) (fun X cdv A outer s H vs Q E hX hr hx h=>?_)
 . obtain⟨c,v,a,b,xs,ys,n,x,L,rfl,_⟩:=h
   rfl
 subst hX
 obtain⟨c,v,a,b,xs,ys,n,x,L,rfl,hc,ok,lx,ox,num,s0,s1,f0,f1,p0,p1,hL,k⟩:=h
 refine⟨_,(A4 (U9 (C4 dA dB hr hx (A0 (pv 1) A3))) (A4 (D9 (B9 B0x (D3 (pv 1) rfl) C5 (B8 _)) (A5 (B0 (pv 1))) C6) (A4 (D9 (B9 D4 (D3 (pv 1) rfl) A1 (B8 _)) (A5 (B0 (C4 dC dD hr hx (A0 (pv 0) (A0 (D3 (pv 1) rfl) (A0 (D3 (pv 1) rfl) A3)))))) C6) (A5 (B0 (C4 dE dF hr hx (A0 (pv 0) (A0 (D3 (pv 1) rfl) (A0 (A3n MR.m MR.g hr R.g MR.b3 .nil hx (A0 (D3 (pv 1) rfl) (A0 A1 (A0 (D3 (pv 1) rfl) A3)))) (A0 (D3 (pv 1) rfl) A3)))))))))),?_⟩
 obtain⟨dn,en⟩:=id num
 refine⟨_,rfl,_,rfl,Or.inl ⟨n,_,_,_,_,rfl,num,?_⟩⟩
 refine⟨_,rfl,n,CN,dn,_,_,rfl,en,N.cl,N.n1,A3q _ _ _ _,rfl,_,rfl,?_⟩
 by_cases hk:x.k= .plain
 . have eR:A7h v x L=if x.f=0 then(⟨.plain,x.s,0,B4k (A3t x.p (v.l-v.r+1)) v.m⟩,[]) else A4j v x.s x.f 1 x.p L x.p:=by unfold A7h;rw[hk]
   rw[eR] at k
   refine B0z (by rw[hk];rfl) ⟨_,rfl,n,CN,dn,_,_,rfl,en,N.cl,N.n3,A4n _ _ _ _,rfl,_,rfl,G8 (fun hf=>?_) (fun hf=>?_)⟩
   . have hf:x.f=0:=V.int.inj hf
     rw[if_pos hf] at k
     exact⟨_,rfl,_,rfl,n,CN,dn,_,_,rfl,en,N.cl,N.n2,A4c _ _ _ _,_,rfl,n,CN,dn,_,_,rfl,en,N.cl,N.n4,A2f _ _ _ _,c,v,a,b,xs,ys,x.s,x.p,rfl,hc,fun n' H' nn s' num'=>k.calm ox s' hc num'⟩
   . have hf:¬x.f=0:=fun z=>hf (congrArg V.int z)
     rw[if_neg hf] at k
     have zl:SzL x.f:=⟨by omega,f1⟩
     have z1:Sz x.f:=zl.sz
     have hl:=hL hk hf
     have ls:=A4t z1 A4h hl
     have fn:=B3m (v:=v) ok ls.1 ls.2 (by omega) (by omega)
     refine⟨_,rfl,_,rfl,n,CN,dn,_,_,rfl,en,N.cl,N.n2,A4c _ _ _ _,_,rfl,n,CN,dn,_,_,rfl,en,N.cl,N.n3,A4n _ _ _ _,_,rfl,n,CN,dn,_,_,rfl,en,N.cl,N.n4,A2f _ _ _ _,fun r dr m1 m2 me=>B9d m1 m2 me fun H1 s1' ra=>⟨rfl,?_⟩⟩
     obtain⟨dn1,en1⟩:=num.same s1'
     exact⟨_,rfl,n,CN,dn1,_,_,rfl,en1,N.cl,N.n4,A2f _ _ _ _,c,v,a,b,xs,ys,r,x.f,1,x.p,L,x.s,x.p,rfl,hc.same s1',ok,lx,ra,z1,A4h,hl,fn.1,fn.2,s0,s1,k.same s1'⟩
 have eR:A7h v x L=(x,[]):=by
   unfold A7h
   cases hx:x.k with
   |plain=>exact absurd hx hk
   |end_=>rfl
   |none=>rfl
 rw[eR] at k
 exact B3t (fun z=>hk (eqS (b:= .plain) z)) ⟨_,rfl,k.calm ox (B5.refl _) hc num⟩
noncomputable def D4b (CN CC CT:Addr):Sp:=fun vs H Q E=>∃c v a b xs ys n1 n2 x1 x2 L,vs=[.ref c,.ref n1,.ref n2]/\Y2 CC H c v a b xs ys/\v.Ok/\xs.length<=900/\V1 xs=xs/\Two CN H n1 n2 x1 x2/\x1.Ok/\x2.Ok/\D2r x1 x2 L/\A1h CN CC CT H c v b xs ys (reR v x1 x2 L) Q E
theorem scRestOf:B7 ["context","one","other","whole","low","left"] Q0 (A7 B1k):=scK
theorem C8e{f f1 f2 f3 f4 f5 f6 f7 f8 fI CN CC CB CB' CT CW:Addr}{cw:Wy ->Addr}{fd fd1 fd2 fd3 fd4 fd5 fd6 fd7 fd8 fdI:FuncData}(D:Def K mg "rest_of" Q0 B1k f fd)(dG:Def K mg "need_numbers" ["things"] A4s f1 fd1)(dH:sI P w K mg base 2 f1 fd1 ["things"] (A5u K CN CB'))
   (dJ:Def K mg "some_of_kind" Q9 A3d f2 fd2) (dL:sI P w K mg base 1 f2 fd2 Q9 (A2z CN)) (dM:Def K mg "nothing" [] A0z f3 fd3) (dN:sI P w K mg base 3 f3 fd3 [] (A1m CN))
   (dA:Def K mg "void" ["context"] B4y f4 fd4) (dB:sI P w K mg base 4 f4 fd4 ["context"] (B7b CN CC CT)) (dC:Def K mg "rounded" Q10 A3k f5 fd5) (dD:sI P w K mg base 7 f5 fd5 Q10 (B3c CN CC CT))
   (dP:Def K mg "whole_part" Q3 A4k f6 fd6) (dQ:sI P w K mg base 4 f6 fd6 Q3 (B0y CN)) (dS:Def K mg "ten_to" ["count"] A1k f7 fd7) (dU:sI P w K mg base 2 f7 fd7 ["count"] A1t) (dE:Def K mg "whole_at" Q13 A1e f8 fd8) (dF:sI P w K mg base 3 f8 fd8 Q13 (A7g CN))
   (C:A6n P w K mg base CC CB CT CW cw) (N:Num K mg CN) (M:A6v P w K mg base CN fI fdI) (O:Own mg):sI P w K mg base 8 f fd Q0 (D4b CN CC CT):=by
 refine D.F.okE scRestOf (fun vs H Q E h=>?_) (fun X cdv A outer s H vs Q E hX hr hx h=>?_)
 . obtain⟨c,v,a,b,xs,ys,n1,n2,x1,x2,L,rfl,_⟩:=h
   rfl
 subst hX
 obtain⟨c,v,a,b,xs,ys,n1,n2,x1,x2,L,rfl,hc,ok,lx,ox,tw,o1,o2,hL,k⟩:=h
 refine⟨_,(A4 (U9 (C4 dG dH hr hx (A0 (G4 (A0 (pv 1) (A0 (pv 2) A3))) A3))) (A4 (D9 (V5 (C4 dJ dL hr hx (A0 (G4 (A0 (pv 1) (A0 (pv 2) A3))) (A0 C5 A3)))) (A5 (B0 (A9k dM dN hr hx))) C6) (A4 (D9 (PW.pt (B0v (B9 D4 (D3 (pv 1) rfl) C5 (B8 _)) (A5w (PW.pt (A4b (B9 D4 (D3 (pv 2) rfl) C5 (B8 _)) (A2e (B9 D4 (D3 (pv 2) rfl) A1 (B8 _)))))))) (A5 (B0 (C4 dA dB hr hx (A0 (pv 0) A3)))) C6) (A4 (D9 (B9 D4 (D3 (pv 2) rfl) C5 (B8 _)) (A5 (B0 (C4 dC dD hr hx (A0 (pv 0) (A0 (pv 1) A3))))) C6) (A4 (D0 (i:=3) scRestOf.nd rfl (Or.inl rfl) (C4 dP dQ hr hx (A0 (pv 1) (A0 (pv 2) A3)))) (A4 (D9 (B9 C4y (pv 3) (C4 dS dU hr hx (A0 (D3 (pv 0) rfl) A3)) (B8 _)) (A5 (B0 (C4 dA dB hr hx (A0 (pv 0) A3)))) C6) (A4 (D0 (i:=4) scRestOf.nd rfl (Or.inl rfl) (G7 (A0g rfl) (by rfl) O.min_ boot_min (A0 (D3 (pv 1) rfl) (A0 (D3 (pv 2) rfl) A3)))) (A4 (D0 (i:=5) scRestOf.nd rfl (Or.inl rfl) (A9 U2 (G7 A3p (by rfl) O.abs_ boot_abs (A0 (C4 dE dF hr hx (A0 (pv 1) (A0 (pv 4) A3))) A3)) (A9 G0 (pv 3) (G7 A3p (by rfl) O.abs_ boot_abs (A0 (C4 dE dF hr hx (A0 (pv 2) (A0 (pv 4) A3))) A3))))) (A5 (B0 (C4 dC dD hr hx (A0 (pv 0) (A0 (A3n M.m (A8.up M.g) hr N.g M.b .nil hx (A0 C5 (A0 (D3 (pv 1) rfl) (A0 (pv 5) (A0 (pv 4) A3))))) A3))))))))))))),?_⟩
 have z2:2<=sizeLine:=C7 (by decide)
 unfold reR at k
 refine⟨_,rfl,_,rfl,z2,fun l nl=>?_⟩
 have u:=B5.upd (o:= .lst [.ref n1,.ref n2]) nl
 refine⟨l,[(n1,x1),(n2,x2)],rfl,(A0d (tw.same u) A6).n,.inl ⟨A6,?_⟩⟩
 refine⟨_,rfl,_,rfl,z2,fun l2 nl2=>?_⟩
 have u2:=u.trans (B5.upd (o:= .lst [.ref n1,.ref n2]) nl2)
 refine⟨l2,_,_,rfl,A0d (tw.same u2) A6,(by show 2<=1000;decide),fun H3 s3=>⟨_,rfl,?_⟩⟩
 rw[B9s]
 have sm3:=u2.trans s3
 have tw3:=tw.same sm3
 have hc3:=hc.same sm3
 obtain⟨⟨d1,e1⟩,⟨d2,e2⟩⟩:=id tw3
 obtain⟨dx,ec⟩:=hc3.ins
 refine G8 (fun hn=>?_) (fun hn=>?_)
 . rw[if_pos hn] at k
   exact⟨rfl,fun n H' nn s' num=>k.calm ox (sm3.trans s') hc num⟩
 rw[if_neg hn] at k
 have hn1:x1.k≠ .none:=fun z=>hn (.inl z)
 have hn2:x2.k≠ .none:=fun z=>hn (.inr z)
 have p10:=o1.p0;have p11:=o1.p1;have p20:=o2.p0;have p21:=o2.p1
 have r1:=ok.r1;have r2:=ok.r2
 obtain⟨lb1,lb2,lb3⟩:=B6e x1 x2
 have big:(10:Int)^60<=A2 500:=by decide+kernel
 refine⟨_,rfl,n1,CN,d1,_,_,rfl,e1,N.cl,N.n1,A3q _ _ _ _,rfl,_,rfl,G8 (fun h1=>Y3 ?_) (fun h1=>?_)⟩
 . have h1:x1.k= .end_:=eqS (b:= .end_) h1
   rw[if_pos h1] at k
   exact⟨_,rfl,c,v,a,b,xs,ys,rfl,hc3,lx,k.same sm3⟩
 have h1:x1.k≠ .end_:=neS (b:= .end_) h1
 rw[if_neg h1] at k
 have p1:x1.k= .plain:=by
   cases h:x1.k with
   |plain=>rfl
   |end_=>exact absurd h h1
   |none=>exact absurd h hn1
 have f11:=o1.f1
 refine⟨_,rfl,n2,CN,d2,_,_,rfl,e2,N.cl,N.n1,A3q _ _ _ _,rfl,_,rfl,G8 (fun h2=>?_) (fun h2=>?_)⟩
 . have h2:x2.k= .plain:=eqS (b:= .plain) h2
   refine⟨_,rfl,n2,CN,d2,_,_,rfl,e2,N.cl,N.n3,A4n _ _ _ _,rfl,_,rfl,G8 (fun h3=>?_) (fun h3=>?_)⟩
   . have h3:x2.f=0:=V.int.inj h3
     rw[if_pos ⟨h2,h3⟩] at k
     exact⟨_,rfl,c,v,a,b,xs,ys,rfl,hc3,lx,k.same sm3⟩
   have h3:¬x2.f=0:=fun z=>h3 (congrArg V.int z)
   have h4:x2.k≠ .end_:=fun z=>by rw[h2] at z;cases z
   rw[if_neg (fun z=>h3 z.2),if_neg h4] at k
   refine⟨_,rfl,n2,CN,d2,_,_,rfl,e2,N.cl,N.n1,A3q _ _ _ _,rfl,_,rfl,U5 (fun z=>h4 (eqS (b:= .end_) z)) ?_⟩
   refine⟨_,rfl,_,rfl,n1,n2,x1,x2,rfl,tw3,o1,o2,h3,?_⟩
   refine⟨_,rfl,_,rfl,c,CC,dx,_,_,rfl,ec,C.c.cl,C.c.n_room,A3u _ _ _ _ _ _,v.r.toNat,(by rw[Int.toNat_of_nonneg (by omega)];rfl),by omega,_,_,rfl,rfl,_,rfl,G8 (fun h5=>?_) (fun h5=>?_)⟩
   . have h5:A0a x1 x2>=A2 v.r:=h5
     rw[if_pos h5] at k
     exact⟨_,rfl,c,v,a,b,xs,ys,rfl,hc3,lx,k.same sm3⟩
   have h5:¬A0a x1 x2>=A2 v.r:=h5
   rw[if_neg h5] at k
   have t24:=B1r r2
   obtain⟨g0,g1,g2,g3,g4⟩:=B6v o1 o2 h3
   have hs:=A6e (q:=V8 x1 x2) o2 h3 (by omega)
   have w0:0<=A0a x1 x2:=Int.ediv_nonneg (B0a o1) (B0a o2)
   have mul:IntMulOk (A0a x1 x2) (Z2 x2 (V8 x1 x2)):=by
     by_cases z:A0a x1 x2=0
     . rw[z];exact A2w.ok (.inl ⟨by decide,by decide⟩)
     . have zs:Sz (A0a x1 x2):=⟨by omega,Int.lt_of_lt_of_le (show A0a x1 x2<10^24 by omega) (by decide+kernel)⟩
       exact IntMulOk.of_bits (B6y zs) (B6y hs.sz)
   refine⟨_,rfl,n1,CN,d1,_,_,rfl,e1,N.cl,N.n4,A2f _ _ _ _,_,rfl,n2,CN,d2,_,_,rfl,e2,N.cl,N.n4,A2f _ _ _ _,_,_,rfl,?_⟩
   show D2y _ _ _ [sr c,sr n1,sr n2,si (A0a x1 x2),si (V8 x1 x2),none] H3
   refine⟨_,rfl,_,rfl,n1,x1,V8 x1 x2,rfl,tw3.1,o1,lb1,by omega,_,rfl,_,rfl,_,rfl,_,rfl,n2,x2,V8 x1 x2,rfl,tw3.2,o2,lb2,by omega,_,rfl,_,_,rfl,rfl,(by rw[A3j o2];exact mul),_,_,rfl,rfl,?_⟩
   rw[A3j o1,A3j o2]
   refine⟨_,rfl,_,rfl,n1,CN,d1,_,_,rfl,e1,N.cl,N.n2,A4c _ _ _ _,_,rfl,_,rfl,?_⟩
   refine B0s (Q:=fun u H'=>B3c CN CC CT ([V.ref c,u]++ []) H' Q (fun C d H'=>E C d H')) fun n' H4 nn s4 num'=>?_
   exact⟨c,v,a,b,xs,ys,n',A0n x1 x2,L,rfl,hc3.same s4,ok,lx,ox,num',o1.s0,o1.s1,g0,g1,g2,g3,(by have:=hL;unfold D2r B4j at this;rw[if_neg h4] at this;exact this),k.same (sm3.trans s4)⟩
 have h2:x2.k≠ .plain:=neS (b:= .plain) h2
 have h4:x2.k= .end_:=by
   cases h:x2.k with
   |plain=>exact absurd h h2
   |end_=>rfl
   |none=>exact absurd h hn2
 rw[if_neg (fun z=>h2 z.1),if_pos h4] at k
 refine U6 ⟨_,rfl,n2,CN,d2,_,_,rfl,e2,N.cl,N.n1,A3q _ _ _ _,rfl,_,rfl,A1f (by rw[h4];rfl) ?_⟩
 exact⟨_,rfl,_,rfl,c,v,a,b,xs,ys,n1,x1,L,rfl,hc3,ok,lx,ox,tw3.1,o1.s0,o1.s1,o1.f0,by omega,p10,p11,(by have:=hL;unfold D2r B4j at this;rw[if_pos h4] at this;exact this),k.same sm3⟩
noncomputable abbrev B6q:Stmt:=(top 75)
noncomputable abbrev B7g:Stmt:=(top 77)
noncomputable abbrev C4m:Stmt:=(top 70)
noncomputable abbrev B8p:Stmt:=(top 71)
noncomputable def Z9 (x y:Nm):Int:=if y.p<x.p then y.p else x.p
noncomputable def A1x (x y:Nm):Int:=x.wh (Z9 x y)+y.wh (Z9 x y)
noncomputable def B1g (t:Int):Int:=if t<0 then -t else t
noncomputable def B2k (t:Int):Int:=if t<0 then 1 else 0
noncomputable def G1f:Wy ->Int
 | .floor=>1
 |_=>0
noncomputable def A7v (y:Wy) (a b:Int):Int:=if a=b then a else G1f y
noncomputable def B1f (v:Cv) (s f p i:Int):Nm×List Str:=if f=0 then(A1c v s i,[]) else A4j v s f 1 p (p+V0 f-1) i
noncomputable def C3a (v:Cv) (x y:Nm):Nm×List Str:=if A1x x y=0 then(A1c v (A7v v.y x.s y.s) (Z9 x y),[]) else B1f v (B2k (A1x x y)) (B1g (A1x x y)) (Z9 x y) (Z9 x y)
theorem C6h(x y:Nm):Z9 x y<=x.p/\Z9 x y<=y.p/\(Z9 x y=x.p\/Z9 x y=y.p):=by
 unfold Z9
 split<;>omega
theorem J3k{x:Nm}{q:Int}(h:x.Bg)(e:x.p-q<=800): -(A2 920)<=x.wh q/\x.wh q<=A2 920:=by
 have tp:=C8 (x.p-q)
 have a:x.f*A2 (x.p-q)<=A2 120*A2 800:=Int.mul_le_mul (Int.le_of_lt h.f1) (V3 (by omega)) (Int.le_of_lt tp) (Int.le_of_lt (C8 _))
 have b:A2 120*A2 800=A2 920:=by decide+kernel
 have c:0<=x.f*A2 (x.p-q):=Int.mul_nonneg h.f0 (Int.le_of_lt tp)
 unfold Nm.wh
 split<;>omega
theorem G6z{t:Int}(h:t≠0)(a: -(2*A2 920)<=t)(b:t<=2*A2 920):Sz (B1g t):=by
 have c:2*A2 920<A2 1000:=by decide+kernel
 unfold B1g
 constructor<;>split<;>omega
theorem G5m{x y:Nm}(hx:x.Bg)(hy:y.Bg)(h:A1x x y≠0):Sz (B1g (A1x x y)):=by
 obtain⟨m1,m2,m3⟩:=C6h x y
 have:=hx.p0;have:=hx.p1;have:=hy.p0;have:=hy.p1
 have a:=J3k (q:=Z9 x y) hx (by omega)
 have b:=J3k (q:=Z9 x y) hy (by omega)
 refine G6z h ?_ ?_<;>unfold A1x<;>omega
theorem B3s{f p:Int}(h:Sz f):A0m f 1 (p-(p+V0 f-1)):=by
 obtain⟨n,rfl,h1,_⟩:=h.nat
 obtain⟨j,a,b⟩:=A4u n h1
 rw[A2y b a,show p-(p+((j:Int)+1)-1)= -(j:Int) by omega]
 unfold A0m
 have e1:A2 (-(j:Int))=1:=by unfold A2;rw[show(-(j:Int)).toNat=0 by omega];rfl
 have e2:A2 (-(-(j:Int)))=((10^j:Nat):Int):=by unfold A2;rw[Int.neg_neg,Int.toNat_natCast]
 rw[e1,e2]
 rw[Nat.pow_succ] at b
 constructor<;>omega
theorem B5m{v:Cv}{f p:Int}(ok:v.Ok)(h:Sz f)(p0: -400<=p)(p1:p<=400): -1500<=p-v.fin (p+V0 f-1)/\p-v.fin (p+V0 f-1)<=1500:=by
 have ls:=A4t h A4h (B3s (p:=p) h)
 exact B3m ok ls.1 ls.2 p0 p1
theorem G6d{x:Nm}(h:x.Bg)(hf:x.f≠0):Sz x.f:=⟨by have:=h.f0;omega,Int.lt_of_lt_of_le h.f1 (V3 (by decide))⟩
theorem G1z{x y:Nm}(hx:x.Ok)(hy:y.Ok):(C9q x y).Bg:=by
 have:=hx.p0;have:=hx.p1;have:=hy.p0;have:=hy.p1
 refine⟨Int.mul_nonneg hx.f0 hy.f0,?_,by show -400<=x.p+y.p;omega,by show x.p+y.p<=400;omega⟩
 have a:x.f*y.f<=(10^60-1)*(10^60-1):=Int.mul_le_mul hx.f1 hy.f1 hy.f0 (by decide+kernel)
 exact Int.lt_of_le_of_lt a (by decide+kernel)
noncomputable def C4u (CN CC:Addr):Sp:=fun vs H Q _=>∃c v a b xs ys n1 n2 x1 x2,vs=[.ref c,.ref n1,.ref n2]/\Y2 CC H c v a b xs ys/\Two CN H n1 n2 x1 x2/\∀H',B5 H H' ->Q (.int (A7v v.y x1.s x2.s)) H'
theorem G3n:B7 Q0 Q0 (A7 B7g):=scK
theorem D3b{f CN CC CB CT CW:Addr}{cw:Wy ->Addr}(D:Def K mg "sign_of_no_sum" Q0 B7g f fd)(C:A6n P w K mg base CC CB CT CW cw)(WN:∀y:Wy,G6a P w K mg base (cw y) y.name)(N:Num K mg CN):sI P w K mg base 3 f fd Q0 (C4u CN CC):=by
 refine D.F.okE G3n (fun vs H Q E h=>?_) (fun X cdv A outer s H vs Q E hX hr hx h=>?_)
 . obtain⟨c,v,a,b,xs,ys,n1,n2,x1,x2,rfl,_⟩:=h
   rfl
 subst hX
 obtain⟨c,v,a,b,xs,ys,n1,n2,x1,x2,rfl,hc,⟨⟨d1,e1⟩,⟨d2,e2⟩⟩,k⟩:=h
 obtain⟨fW,fdW,mW,gW,bW⟩:=C.way
 obtain⟨fU,fdU,mU,gU,bU⟩:=WN v.y
 refine⟨_,(A4 (D9 (B9 D4 (D3 (pv 1) rfl) (D3 (pv 2) rfl) (B8 _)) (A5 (B0 (D3 (pv 1) rfl))) C6) (A5 (B0 (V4 (B9 D4 (A0t (A0t (pv 0) C.c.cl mW gW hr bW .nil hx) (C.wc v.y).cl mU gU hr bU .nil hx) C5 (B8 _)) A1 A1)))),?_⟩
 obtain⟨dx,e⟩:=hc.ins
 refine⟨_,rfl,n1,CN,d1,_,_,rfl,e1,N.cl,N.n2,A4c _ _ _ _,_,rfl,n2,CN,d2,_,_,rfl,e2,N.cl,N.n2,A4c _ _ _ _,rfl,_,rfl,G8 (fun h=>?_) (fun h=>?_)⟩
 . have k:=k H (B5.refl _)
   unfold A7v at k
   rw[if_pos (V.int.inj h)] at k
   exact⟨_,rfl,n1,CN,d1,_,_,rfl,e1,N.cl,N.n2,A4c _ _ _ _,k⟩
 refine⟨_,rfl,c,dx,_,rfl,e,A6y _ _ _ _ _ _,c,v.r,v.y,v.l,v.m,a,b,_,_,rfl,hc,fun q dq H1 nq s1 eq=>?_⟩
 have k:=k H1 s1
 have e:A7v v.y x1.s x2.s=(if V.str v.y.name=V.str "floor" then 1 else 0):=by
   unfold A7v
   rw[if_neg fun z=>h (congrArg V.int z)]
   cases v.y<;>decide+kernel
 rw[e] at k
 refine⟨q,dq,_,rfl,eq,rfl,q,rfl,rfl,_,rfl,G8 (fun h=>?_) (fun h=>?_)⟩
 . rw[if_pos h] at k
   exact k
 rw[if_neg h] at k
 exact k
noncomputable def C4q (CN CC CT:Addr):Sp:=fun vs H Q E=>∃c v a b xs ys n1 n2 x1 x2,vs=[.ref c,.ref n1,.ref n2]/\Y2 CC H c v a b xs ys/\v.Ok/\xs.length<=900/\V1 xs=xs/\Two CN H n1 n2 x1 x2/\x1.k= .plain/\x2.k= .plain/\x1.Bg/\x2.Bg/\A1h CN CC CT H c v b xs ys (C3a v x1 x2) Q E
theorem scAdded:B7 ["context","one","other","low","total"] Q0 (A7 B6q):=scK
theorem C9t(t:Int):0<=B2k t/\B2k t<=1:=by unfold B2k;split<;>decide
theorem D1p{f f1 f2 f3 f4 f5 f6 fR CN CC CB CT CW CR CE:Addr}{cw:Wy ->Addr}{fd fd1 fd2 fd3 fd4 fd5 fd6 fdR:FuncData}{d0:Value}{gP:List Value ->List Value ->List Value}{vP:List V ->List V ->List V}{sEA:Stmt}(D:Def K mg "added" Q0 B6q f fd)(dC:Def K mg "some_of_kind" Q9 A3d f1 fd1)(dD:sI P w K mg base 1 f1 fd1 Q9 (A2z CN))
   (dE:Def K mg "end_added" Q0 sEA f2 fd2) (dA:Def K mg "whole_at" Q13 A1e f3 fd3) (dB:sI P w K mg base 3 f3 fd3 Q13 (B6j CN)) (dF:Def K mg "nought" Q11 A1v f4 fd4) (dG:sI P w K mg base 3 f4 fd4 Q11 (A2t CN CC))
   (dH:Def K mg "sign_of_no_sum" Q0 B7g f5 fd5) (dJ:sI P w K mg base 3 f5 fd5 Q0 (C4u CN CC)) (dL:Def K mg "settled" Q12 A1z f6 fd6) (dM:sI P w K mg base 6 f6 fd6 Q12 (A1n CN CC CT CR))
   (C:A6n P w K mg base CC CB CT CW cw) (N:Num K mg CN) (MR:C1c P w K mg base CR fR fdR d0 gP vP) (R:B8w K mg CR CE) (O:Own mg):sI P w K mg base 7 f fd Q0 (C4q CN CC CT):=by
 have G_end_added:sI P w K mg base 1 f2 fd2 Q0 (fun _ _ _ _=>False):=A8.never
 refine D.F.okE scAdded (fun vs H Q E h=>?_) (fun X cdv A outer s H vs Q E hX hr hx h=>?_)
 . obtain⟨c,v,a,b,xs,ys,n1,n2,x1,x2,rfl,_⟩:=h
   rfl
 subst hX
 obtain⟨c,v,a,b,xs,ys,n1,n2,x1,x2,rfl,hc,ok,lx,ox,tw,h1,h2,g1,g2,k⟩:=h
 refine⟨_,(A4 (D9 (V5 (C4 dC dD hr hx (A0 (G4 (A0 (pv 1) (A0 (pv 2) A3))) (A0 C5 A3)))) (A5 (B0 (C4 dE G_end_added hr hx (A0 (pv 0) (A0 (pv 1) (A0 (pv 2) A3)))))) C6) (A4 (D0 (i:=3) scAdded.nd rfl (Or.inl rfl) (G7 (A0g rfl) (by rfl) O.min_ boot_min (A0 (D3 (pv 1) rfl) (A0 (D3 (pv 2) rfl) A3)))) (A4 (D0 (i:=4) scAdded.nd rfl (Or.inl rfl) (A9 G9 (C4 dA dB hr hx (A0 (pv 1) (A0 (pv 3) A3))) (C4 dA dB hr hx (A0 (pv 2) (A0 (pv 3) A3))))) (A4 (D9 (B9 D4 (pv 4) A1 (B8 _)) (A5 (B0 (C4 dF dG hr hx (A0 (pv 0) (A0 (C4 dH dJ hr hx (A0 (pv 0) (A0 (pv 1) (A0 (pv 2) A3)))) (A0 (pv 3) A3)))))) C6) (A5 (B0 (C4 dL dM hr hx (A0 (pv 0) (A0 (V4 (B9 A6u (pv 4) A1 (B8 _)) A1 A1) (A0 (A3n MR.m MR.g hr R.g MR.b3 .nil hx (A0 (G7 A3p (by rfl) O.abs_ boot_abs (A0 (pv 4) A3)) (A0 A1 (A0 (pv 3) A3)))) (A0 (pv 3) A3))))))))))),?_⟩
 have z2:2<=sizeLine:=C7 (by decide)
 refine⟨_,rfl,_,rfl,z2,fun l nl=>?_⟩
 have u:=B5.upd (o:= .lst [.ref n1,.ref n2]) nl
 refine⟨l,_,_,rfl,A0d (tw.same u) A6,(by show 2<=1000;decide),fun H3 s3=>⟨_,rfl,?_⟩⟩
 rw[A5c h1 h2 (by decide+kernel)]
 refine U6 ?_
 have sm3:=u.trans s3
 have tw3:=tw.same sm3
 have hc3:=hc.same sm3
 obtain⟨⟨d1,e1⟩,⟨d2,e2⟩⟩:=id tw3
 obtain⟨m1,m2,m3⟩:=C6h x1 x2
 have:=g1.p0;have:=g1.p1;have:=g2.p0;have:=g2.p1
 refine⟨_,rfl,n1,CN,d1,_,_,rfl,e1,N.cl,N.n4,A2f _ _ _ _,_,rfl,n2,CN,d2,_,_,rfl,e2,N.cl,N.n4,A2f _ _ _ _,_,_,rfl,?_⟩
 show D2y _ _ _ [sr c,sr n1,sr n2,si (Z9 x1 x2),none] H3
 refine⟨_,rfl,_,rfl,n1,x1,Z9 x1 x2,rfl,tw3.1,g1,by omega,by omega,_,rfl,_,rfl,n2,x2,Z9 x1 x2,rfl,tw3.2,g2,by omega,by omega,_,_,rfl,rfl,?_⟩
 show D2y _ _ _ [sr c,sr n1,sr n2,si (Z9 x1 x2),si (A1x x1 x2)] H3
 unfold C3a at k
 refine⟨_,rfl,rfl,_,rfl,G8 (fun hf=>?_) (fun hf=>?_)⟩
 . have hf:A1x x1 x2=0:=V.int.inj hf
   rw[if_pos hf] at k
   refine⟨_,rfl,_,rfl,_,rfl,_,rfl,c,v,a,b,xs,ys,n1,n2,x1,x2,rfl,hc3,tw3,fun H4 s4=>?_⟩
   have sm4:=sm3.trans s4
   exact⟨_,rfl,c,v,a,b,xs,ys,A7v v.y x1.s x2.s,Z9 x1 x2,rfl,hc.same sm4,fun n H' nn s' num=>k.calm ox (sm4.trans s') hc num⟩
 have hf:¬A1x x1 x2=0:=fun z=>hf (congrArg V.int z)
 rw[if_neg hf] at k
 have sz:=G5m g1 g2 hf
 unfold B1f at k
 rw[if_neg (by have:=sz.1;omega)] at k
 have fn:=B5m (p:=Z9 x1 x2) ok sz (by omega) (by omega)
 have nb:=C9t (A1x x1 x2)
 have fin:∀sg:Int,sg=B2k (A1x x1 x2) ->∀q H4,B5 H3 H4 ->A6w CR H4 q (B1g (A1x x1 x2)) 1 (Z9 x1 x2) ->A1n CN CC CT CR [.ref c,.int sg,.ref q,.int (Z9 x1 x2)] H4 Q E:=fun sg e q H4 s4 ra=>by
   subst e
   have sm4:=sm3.trans s4
   exact⟨c,v,a,b,xs,ys,q,_,1,_,_,_,_,rfl,hc.same sm4,ok,lx,ra,sz,A4h,B3s sz,fn.1,fn.2,nb.1,nb.2,k.same sm4⟩
 refine⟨_,rfl,_,rfl,_,_,rfl,rfl,_,rfl,G8 (fun h=>?_) (fun h=>?_)⟩
 . have e:(1:Int)=B2k (A1x x1 x2):=by unfold B2k;rw[if_pos h]
   exact⟨_,rfl,_,rfl,_,rfl,fun q dq m1 m2 me=>B9d m1 m2 me fun H4 s4 ra=>⟨rfl,_,rfl,fin 1 e q H4 s4 ra⟩⟩
 have e:(0:Int)=B2k (A1x x1 x2):=by unfold B2k;rw[if_neg h]
 exact⟨_,rfl,_,rfl,_,rfl,fun q dq m1 m2 me=>B9d m1 m2 me fun H4 s4 ra=>⟨rfl,_,rfl,fin 0 e q H4 s4 ra⟩⟩
noncomputable def D2c (CN CC CT:Addr):Sp:=fun vs H Q E=>∃c v a b xs ys n1 n2 x1 x2,vs=[.ref c,.ref n1,.ref n2]/\Y2 CC H c v a b xs ys/\v.Ok/\xs.length<=900/\V1 xs=xs/\Two CN H n1 n2 x1 x2/\x1.k= .plain/\x2.k= .plain/\x1.Ok/\x2.Ok/\A1h CN CC CT H c v b xs ys (C3a v x1 x2) Q E
theorem G6s:B7 Q0 Q0 (A7 C4m):=scK
theorem G0r{f f1 f2 f3 f4 CN CC CB' CT:Addr}(D:Def K mg "plus" Q0 C4m f fd)(dA:Def K mg "need_numbers" ["things"] A4s f1 fd1)(dB:sI P w K mg base 2 f1 fd1 ["things"] (A5u K CN CB'))
   (dC:Def K mg "some_of_kind" Q9 A3d f2 fd2) (dD:sI P w K mg base 1 f2 fd2 Q9 (A2z CN)) (dE:Def K mg "nothing" [] A0z f3 fd3) (dF:sI P w K mg base 3 f3 fd3 [] (A1m CN))
   (dG:Def K mg "added" Q0 B6q f4 fd4) (dH:sI P w K mg base 7 f4 fd4 Q0 (C4q CN CC CT)):sI P w K mg base 8 f fd Q0 (D2c CN CC CT):=by
 refine D.F.okE G6s (fun vs H Q E h=>?_) (fun X cdv A outer s H vs Q E hX hr hx h=>?_)
 . obtain⟨c,v,a,b,xs,ys,n1,n2,x1,x2,rfl,_⟩:=h
   rfl
 subst hX
 obtain⟨c,v,a,b,xs,ys,n1,n2,x1,x2,rfl,hc,ok,lx,ox,tw,h1,h2,o1,o2,k⟩:=h
 refine⟨_,(A4 (U9 (C4 dA dB hr hx (A0 (G4 (A0 (pv 1) (A0 (pv 2) A3))) A3))) (A4 (D9 (V5 (C4 dC dD hr hx (A0 (G4 (A0 (pv 1) (A0 (pv 2) A3))) (A0 C5 A3)))) (A5 (B0 (A9k dE dF hr hx))) C6) (A5 (B0 (C4 dG dH hr hx (A0 (pv 0) (A0 (pv 1) (A0 (pv 2) A3)))))))),?_⟩
 have z2:2<=sizeLine:=C7 (by decide)
 refine⟨_,rfl,_,rfl,z2,fun l nl=>?_⟩
 have u:=B5.upd (o:= .lst [.ref n1,.ref n2]) nl
 refine⟨l,[(n1,x1),(n2,x2)],rfl,(A0d (tw.same u) A6).n,.inl ⟨A6,?_⟩⟩
 refine⟨_,rfl,_,rfl,z2,fun l2 nl2=>?_⟩
 have u2:=u.trans (B5.upd (o:= .lst [.ref n1,.ref n2]) nl2)
 refine⟨l2,_,_,rfl,A0d (tw.same u2) A6,(by show 2<=1000;decide),fun H3 s3=>⟨_,rfl,?_⟩⟩
 rw[A5c h1 h2 (by decide+kernel)]
 refine U6 ?_
 have sm3:=u2.trans s3
 have tw3:=tw.same sm3
 exact⟨_,rfl,_,rfl,_,rfl,c,v,a,b,xs,ys,n1,n2,x1,x2,rfl,hc.same sm3,ok,lx,ox,tw3,h1,h2,o1.bg,o2.bg,k.same sm3⟩
noncomputable def B9g (CN CC CT:Addr):Sp:=fun vs H Q E=>∃c v a b xs ys n x,vs=[.ref c,.ref n]/\Y2 CC H c v a b xs ys/\v.Ok/\xs.length<=900/\V1 xs=xs/\V6 CN H n x/\x.k= .plain/\0<=x.s/\x.s<=1/\x.Bg/\A1h CN CC CT H c v b xs ys (B1f v x.s x.f x.p x.p) Q E
theorem C7g{f f1 f2 f3 fI CN CC CB CB' CT CW CR CE:Addr}{cw:Wy ->Addr}{fd fd1 fd2 fd3 fdI:FuncData}{d0:Value}{gP:List Value ->List Value ->List Value}{vP:List V ->List V ->List V}(D:Def K mg "rounded" Q10 A3k f fd)
   (dA:Def K mg "need_number" ["thing"] A5d f1 fd1) (dB:sI P w K mg base 1 f1 fd1 ["thing"] (A8z K CN CB')) (dC:Def K mg "nought" Q11 A1v f2 fd2) (dD:sI P w K mg base 3 f2 fd2 Q11 (A2t CN CC))
   (dE:Def K mg "settled" Q12 A1z f3 fd3) (dF:sI P w K mg base 6 f3 fd3 Q12 (A1n CN CC CT CR)) (MR:C1c P w K mg base CR fI fdI d0 gP vP) (R:B8w K mg CR CE) (N:Num K mg CN):
   sI P w K mg base 7 f fd Q10 (B9g CN CC CT):=by
 refine D.F.okE B6g (fun vs H Q E h=>?_) (fun X cdv A outer s H vs Q E hX hr hx h=>?_)
 . obtain⟨c,v,a,b,xs,ys,n,x,rfl,_⟩:=h
   rfl
 subst hX
 obtain⟨c,v,a,b,xs,ys,n,x,rfl,hc,ok,lx,ox,num,hk,s0,s1,g,k⟩:=h
 refine⟨_,(A4 (U9 (C4 dA dB hr hx (A0 (pv 1) A3))) (A4 (D9 (B9 B0x (D3 (pv 1) rfl) C5 (B8 _)) (A5 (B0 (pv 1))) C6) (A4 (D9 (B9 D4 (D3 (pv 1) rfl) A1 (B8 _)) (A5 (B0 (C4 dC dD hr hx (A0 (pv 0) (A0 (D3 (pv 1) rfl) (A0 (D3 (pv 1) rfl) A3)))))) C6) (A5 (B0 (C4 dE dF hr hx (A0 (pv 0) (A0 (D3 (pv 1) rfl) (A0 (A3n MR.m MR.g hr R.g MR.b3 .nil hx (A0 (D3 (pv 1) rfl) (A0 A1 (A0 (D3 (pv 1) rfl) A3)))) (A0 (D3 (pv 1) rfl) A3)))))))))),?_⟩
 obtain⟨dn,en⟩:=id num
 refine⟨_,rfl,_,rfl,Or.inl ⟨n,_,_,_,_,rfl,num,?_⟩⟩
 refine⟨_,rfl,n,CN,dn,_,_,rfl,en,N.cl,N.n1,A3q _ _ _ _,rfl,_,rfl,?_⟩
 unfold B1f at k
 refine B0z (by rw[hk];rfl) ⟨_,rfl,n,CN,dn,_,_,rfl,en,N.cl,N.n3,A4n _ _ _ _,rfl,_,rfl,G8 (fun hf=>?_) (fun hf=>?_)⟩
 . have hf:x.f=0:=V.int.inj hf
   rw[if_pos hf] at k
   exact⟨_,rfl,_,rfl,n,CN,dn,_,_,rfl,en,N.cl,N.n2,A4c _ _ _ _,_,rfl,n,CN,dn,_,_,rfl,en,N.cl,N.n4,A2f _ _ _ _,c,v,a,b,xs,ys,x.s,x.p,rfl,hc,fun n' H' nn s' num'=>k.calm ox s' hc num'⟩
 have hf:¬x.f=0:=fun z=>hf (congrArg V.int z)
 rw[if_neg hf] at k
 have sz:=G6d g hf
 have fn:=B5m (p:=x.p) ok sz g.p0 g.p1
 refine⟨_,rfl,_,rfl,n,CN,dn,_,_,rfl,en,N.cl,N.n2,A4c _ _ _ _,_,rfl,n,CN,dn,_,_,rfl,en,N.cl,N.n3,A4n _ _ _ _,_,rfl,n,CN,dn,_,_,rfl,en,N.cl,N.n4,A2f _ _ _ _,fun r dr m1 m2 me=>B9d m1 m2 me fun H1 s1' ra=>⟨rfl,?_⟩⟩
 obtain⟨dn1,en1⟩:=num.same s1'
 exact⟨_,rfl,n,CN,dn1,_,_,rfl,en1,N.cl,N.n4,A2f _ _ _ _,c,v,a,b,xs,ys,r,x.f,1,x.p,_,x.s,x.p,rfl,hc.same s1',ok,lx,ra,sz,A4h,B3s sz,fn.1,fn.2,s0,s1,k.same s1'⟩
theorem G7s{x y:Nm}(hx:x.Ok)(hy:y.Ok):IntMulOk x.f y.f:=IntMulOk.of_bits hx.bits hy.bits
noncomputable def C6f (CN CC CT:Addr):Sp:=fun vs H Q E=>∃c v a b xs ys n1 n2 x1 x2,vs=[.ref c,.ref n1,.ref n2]/\Y2 CC H c v a b xs ys/\v.Ok/\xs.length<=900/\V1 xs=xs/\Two CN H n1 n2 x1 x2/\x1.k= .plain/\x2.k= .plain/\x1.Ok/\x2.Ok/\A1h CN CC CT H c v b xs ys (B1f v (A0e x1.s x2.s) (x1.f*x2.f) (x1.p+x2.p) (x1.p+x2.p)) Q E
theorem G2v:B7 Q0 Q0 (A7 B8p):=scK
theorem D3e{f f1 f2 f3 f6 f7 f8 f9 CN CC CB' CT:Addr}{sVo:Stmt}(D:Def K mg "times" Q0 B8p f fd)(dA:Def K mg "need_numbers" ["things"] A4s f1 fd1)(dB:sI P w K mg base 2 f1 fd1 ["things"] (A5u K CN CB'))
   (dC:Def K mg "some_of_kind" Q9 A3d f2 fd2) (dD:sI P w K mg base 1 f2 fd2 Q9 (A2z CN)) (dE:Def K mg "nothing" [] A0z f3 fd3) (dF:sI P w K mg base 3 f3 fd3 [] (A1m CN))
   (dG:Def K mg "rounded" Q10 A3k f6 fd6) (dH:sI P w K mg base 7 f6 fd6 Q10 (B9g CN CC CT))
   (dJ:Def K mg "is_end_by_nought" Q3 B1j f7 fd7) (dL:sI P w K mg base 2 f7 fd7 Q3 (B9q CN)) (dM:Def K mg "product" Q3 A8y f8 fd8) (dN:sI P w K mg base 4 f8 fd8 Q3 (D0z CN)) (dP:Def K mg "void" ["context"] sVo f9 fd9):sI P w K mg base 8 f fd Q0 (C6f CN CC CT):=by
 have G_void:sI P w K mg base 1 f9 fd9 ["context"] (fun _ _ _ _=>False):=A8.never
 refine D.F.okE G2v (fun vs H Q E h=>?_) (fun X cdv A outer s H vs Q E hX hr hx h=>?_)
 . obtain⟨c,v,a,b,xs,ys,n1,n2,x1,x2,rfl,_⟩:=h
   rfl
 subst hX
 obtain⟨c,v,a,b,xs,ys,n1,n2,x1,x2,rfl,hc,ok,lx,ox,tw,h1,h2,o1,o2,k⟩:=h
 refine⟨_,(A4 (U9 (C4 dA dB hr hx (A0 (G4 (A0 (pv 1) (A0 (pv 2) A3))) A3))) (A4 (D9 (V5 (C4 dC dD hr hx (A0 (G4 (A0 (pv 1) (A0 (pv 2) A3))) (A0 C5 A3)))) (A5 (B0 (A9k dE dF hr hx))) C6) (A4 (D9 (V5 (C4 dJ dL hr hx (A0 (pv 1) (A0 (pv 2) A3)))) (A5 (B0 (C4 dP G_void hr hx (A0 (pv 0) A3)))) C6) (A5 (B0 (C4 dG dH hr hx (A0 (pv 0) (A0 (C4 dM dN hr hx (A0 (pv 1) (A0 (pv 2) A3))) A3)))))))),?_⟩
 have z2:2<=sizeLine:=C7 (by decide)
 refine⟨_,rfl,_,rfl,z2,fun l nl=>?_⟩
 have u:=B5.upd (o:= .lst [.ref n1,.ref n2]) nl
 refine⟨l,[(n1,x1),(n2,x2)],rfl,(A0d (tw.same u) A6).n,.inl ⟨A6,?_⟩⟩
 refine⟨_,rfl,_,rfl,z2,fun l2 nl2=>?_⟩
 have u2:=u.trans (B5.upd (o:= .lst [.ref n1,.ref n2]) nl2)
 refine⟨l2,_,_,rfl,A0d (tw.same u2) A6,(by show 2<=1000;decide),fun H3 s3=>⟨_,rfl,?_⟩⟩
 rw[A5c h1 h2 (by decide+kernel)]
 refine U6 ?_
 have sm3:=u2.trans s3
 have tw3:=tw.same sm3
 refine⟨_,rfl,_,rfl,n1,n2,x1,x2,rfl,tw3,h1,h2,fun H4 s4=>⟨_,rfl,U6 ?_⟩⟩
 have sm4:=sm3.trans s4
 refine⟨_,rfl,_,rfl,_,rfl,n1,n2,x1,x2,rfl,tw.same sm4,h1,h2,G7s o1 o2,fun n H5 nn s5 num=>?_⟩
 have sm5:=sm4.trans s5
 have us:=A9y x1.s x2.s
 exact⟨c,v,a,b,xs,ys,n,C9q x1 x2,rfl,hc.same sm5,ok,lx,ox,num,rfl,us.1,us.2,G1z o1 o2,k.same sm5⟩
noncomputable abbrev C4t:Stmt:=(top 79)
noncomputable def D0c (K:Frag):Sp:=fun vs H Q _=>∃a ns k,vs=[.ref a,.int k]/\SqL K H a ((ns:List Int).map V.int)/\0<=k/\∀i,Q (.int i) H
theorem G5v:B7 Q32 Q32 (A7 C4t):=scK
theorem G2w(D:Def K mg "_law_cell_at" Q32 C4t f fd)(O:Own mg):sI P w K mg base 1 f fd Q32 (D0c K):=by
 refine A8.up (D.F.ok G5v (fun vs H Q E h=>?_) (fun cdv A outer s H vs Q E hr h=>?_))
 . obtain⟨a,ns,k,rfl,_⟩:=h
   rfl
 obtain⟨a,ns,i,rfl,hs,h0,k⟩:=h
 refine⟨_,(A4 (D9 (B9 A6u (pv 1) (G7 A9a (by rfl) O.len_ PySem.boot_len (A0 (pv 0) A3)) (B8 _)) (A5 (B0 (D7 A0h (pv 0) (pv 1) (fun _ _=>rfl)))) C6) (A5 (B0 A1))),?_⟩
 refine⟨_,rfl,_,rfl,a,_,rfl,.inl hs,_,_,rfl,rfl,_,rfl,?_⟩
 refine G8 (fun hlt=>?_) (fun _=>k 0)
 rw[List.length_map] at hlt
 obtain⟨j,rfl⟩:=Int.eq_ofNat_of_zero_le h0
 have hj:j<ns.length:=by omega
 exact⟨_,rfl,_,rfl,a,_,_,_,rfl,rfl,hs,C0 (v:=V.int ns[j]) (by simp[hj]),k _⟩
noncomputable abbrev A9n:Stmt:=(top 80)
noncomputable def B1q:Sp:=fun vs H Q _=>∃c k,vs=[.int c,.int k]/\0<=k/\k<=100/\∀m,0<=m ->m<2147483629 ->Q (.int m) H
theorem G3a:B7 Q15 Q15 (A7 A9n):=scK
theorem D3y(D:Def K mg "_law_mixed" Q15 A9n f fd):sI P w K mg base 1 f fd Q15 B1q:=by
 refine A8.up (D.F.ok G3a (fun vs H Q E h=>?_) (fun cdv A outer s H vs Q E hr h=>?_))
 . obtain⟨c,k,rfl,_⟩:=h
   rfl
 obtain⟨c,i,rfl,h0,h1,k⟩:=h
 refine⟨_,(A5 (B0 (A9 U3 (A9 G0 (A9 U3 (A9 G9 (A9 G9 (A9 G0 (pv 0) (A9 G9 A1 (A9 G0 (A9 G0 A1 (pv 1)) (pv 1)))) (A9 G0 A1 (pv 1))) A1) A1) A1) A1))),?_⟩
 have q0:(0:Int)<=2*i*i:=Int.mul_nonneg (by omega) h0
 have q1:2*i*i<=200*100:=Int.mul_le_mul (by omega) h1 h0 (by decide)
 have m1:IntMulOk 2 i:=A2w.ok (.inl ⟨by decide,by decide⟩)
 have m2:IntMulOk (2*i) i:=A2w.ok (.inr ⟨by omega,by omega⟩)
 have m3:IntMulOk c (48271+2*i*i):=A2w.ok (.inr ⟨by omega,by omega⟩)
 have m4:IntMulOk 69621 i:=A2w.ok (.inl ⟨by decide,by decide⟩)
 have m5:∀z:Int,IntMulOk z 69621:=fun z=>A2w.ok (.inr ⟨by decide,by decide⟩)
 refine⟨_,rfl,_,rfl,_,_,rfl,rfl,m1,_,rfl,_,_,rfl,rfl,m2,_,_,rfl,rfl,_,_,rfl,rfl,m3,_,rfl,_,_,rfl,rfl,m4,_,_,rfl,rfl,_,_,rfl,rfl,_,_,rfl,rfl,(by show(0:Int)<2147483647;decide),_,_,rfl,rfl,m5 _,_,_,rfl,rfl,(by show(0:Int)<2147483629;decide),?_⟩
 exact k _ (Int.emod_nonneg _ (by decide)) (Int.emod_lt_of_pos _ (by decide))
noncomputable abbrev A8p:Stmt:=(top 81)
noncomputable abbrev C6b:Stmt:=(top 82)
noncomputable abbrev B1n:Stmt:=(top 83)
noncomputable abbrev C5v:Stmt:=(top 84)
noncomputable abbrev B1u:Stmt:=(top 85)
theorem dv{n:Int}(h:0<n)(h2:n.natAbs.log2<9000):(0:Int)<n/\n.natAbs.log2<9000:=⟨h,h2⟩
structure B1y(r l m:Int):Prop where
 r1:1<=r
 r2:r<=24
 l1: -60<=l
 l2:l<=0
 m1:0<=m
 m2:m<=60
theorem at3(a b c n:Int):∃v,(v=a\/v=b\/v=c)/\atI ([.int a,.int b,.int c]:List V) (n % 3)=some (.int v):=by
 rcases(by omega:n % 3=0\/n % 3=1\/n % 3=2) with h|h|h
 . exact⟨a,.inl rfl,by rw[h];exact C0 (j:=0) rfl⟩
 . exact⟨b,.inr (.inl rfl),by rw[h];exact C0 (j:=1) rfl⟩
 exact⟨c,.inr (.inr rfl),by rw[h];exact C0 (j:=2) rfl⟩
theorem at4(a b c d n:Int):∃v,(v=a\/v=b\/v=c\/v=d)/\atI ([.int a,.int b,.int c,.int d]:List V) (n % 8/2)=some (.int v):=by
 rcases(by omega:n % 8/2=0\/n % 8/2=1\/n % 8/2=2\/n % 8/2=3) with h|h|h|h
 . exact⟨a,.inl rfl,by rw[h];exact C0 (j:=0) rfl⟩
 . exact⟨b,.inr (.inl rfl),by rw[h];exact C0 (j:=1) rfl⟩
 . exact⟨c,.inr (.inr (.inl rfl)),by rw[h];exact C0 (j:=2) rfl⟩
 exact⟨d,.inr (.inr (.inr rfl)),by rw[h];exact C0 (j:=3) rfl⟩
theorem at8(n:Int):∃y:Wy,atI ([.str "down",.str "up",.str "floor",.str "ceiling",.str "half up",.str "half down",.str "half even",.str "five up"]:List V) (n % 8)=some (.str y.name):=by
 rcases(by omega:n % 8=0\/n % 8=1\/n % 8=2\/n % 8=3\/n % 8=4\/n % 8=5\/n % 8=6\/n % 8=7) with h|h|h|h|h|h|h|h<;>rw[h]
 . exact⟨.down,C0 (j:=0) rfl⟩
 . exact⟨.up,C0 (j:=1) rfl⟩
 . exact⟨.floor,C0 (j:=2) rfl⟩
 . exact⟨.ceiling,C0 (j:=3) rfl⟩
 . exact⟨.halfUp,C0 (j:=4) rfl⟩
 . exact⟨.halfDown,C0 (j:=5) rfl⟩
 . exact⟨.halfEven,C0 (j:=6) rfl⟩
 exact⟨.fiveUp,C0 (j:=7) rfl⟩
theorem G5k{a b:Int}(h:a<b)(h0:0<=a):A2 a<A2 b:=by
 unfold A2
 exact Int.ofNat_lt.mpr ((Nat.pow_lt_pow_iff_right (by decide)).mpr (by omega))
theorem C4n{e:Int}(h:e<=1500):(0:Int)<A2 e/\(A2 e).natAbs.log2<9000:=by
 have:=C1q A4h h
 rw[Int.one_mul] at this
 exact⟨C8 e,this⟩
theorem G7z{f:Int}(h0:0<=f)(h:f<A2 60):Builtin.Int.intBits f<=2^20:=by
 obtain⟨n,rfl⟩:=Int.eq_ofNat_of_zero_le h0
 refine A4f (k:=200) ?_ (by decide)
 have:n<10^60:=Int.ofNat_lt.mp h
 exact Nat.lt_trans this (by decide+kernel)
noncomputable def A7e:Sp:=fun vs H Q _=>∃p:Int,vs=[.int p]/\ -(2^62)<=p/\p<2^62/\Q (.int (A2 p)) H
theorem scLTen:B7 ["_law_power","_law_found","_law_turn"] ["_law_power"] (A7 A8p):=scK
theorem G0f(D:Def K mg "_law_ten" ["_law_power"] A8p f fd)(O:Own mg):sI P w K mg base 1 f fd ["_law_power"] A7e:=by
 refine D.F.okE scLTen (fun vs H Q E h=>?_) (fun X cdv A outer s H vs Q E hX hr hx h=>?_)
 . obtain⟨p,rfl,_⟩:=h
   rfl
 subst hX
 obtain⟨p,rfl,p0,p1,k⟩:=h
 refine⟨_,(A4 (B3 (D0 (i:=1) scLTen.nd rfl (Or.inl rfl) A1)) (A4 (B3 (A9u PassesOwn.leaving rfl (B5y rfl O.range_ (A0 (pv 0) A3)) (U1 (i:=2) scLTen.nd rfl (Or.inl rfl)) (A5 (B3 (D0 (i:=1) scLTen.nd rfl (Or.inl rfl) (A9 G0 (pv 1) A1)))))) (A5 (B0 (pv 1))))),?_⟩
 refine⟨fun σ' H'=>H'=H/\σ'=[si p,si 1,none],⟨rfl,rfl⟩,?_⟩
 rintro σ' H1 ⟨rfl,rfl⟩
 let I_:L2.St ->L2.Hp ->Prop:=fun σ' H'=>H'=H1/\∃v,σ'=[si p,si (A2 p),v]
 refine⟨I_,?_,?_⟩
 . refine⟨_,rfl,p,rfl,p0,p1,B5q (n:=p.toNat) (fun i σ' H'=>H'=H1/\∃v,σ'=[si p,si ((10^i:Nat):Int),v]) ⟨rfl,none,rfl⟩ ?_ ?_⟩
   . rintro i σ' H' hi ⟨rfl,v,rfl⟩
     refine⟨_,?_,fun _ _ h=>h⟩
     refine⟨_,rfl,_,_,rfl,rfl,A2w.ok (.inr ⟨by decide,by decide⟩),rfl,si (0+(i:Int)),?_⟩
     rw[Nat.pow_succ,Int.natCast_mul]
     rfl
   . rintro σ' H' ⟨rfl,v,rfl⟩
     exact⟨rfl,v,rfl⟩
 refine L2.hideG fun Z_ z_=>?_
 rintro σ' H2 ⟨rfl,v,rfl⟩
 subst z_
 clear I_
 exact⟨_,rfl,k⟩
noncomputable def C9z:Sp:=fun vs H Q _=>∃c m:Int,vs=[.int c,.int m]/\1<=m/\m<=60/\∀f H',0<=f ->f<A2 m ->B5 H H' ->Q (.int f) H'
theorem scLFig:B7 ["_law_cell","_law_most","_law_number","_law_j","_law_more","_law_many","_law_figures_here","_law_way","_law_behind"] Q16 (A7 C6b):=scK
theorem G0e(D:Def K mg "_law_figures" Q16 C6b f fd)(dC:Def K mg "_law_mixed" Q15 A9n f1 fd1)(dD:sI P w K mg base 1 f1 fd1 Q15 B1q)
   (dA:Def K mg "_law_ten" ["_law_power"] A8p f2 fd2) (dB:sI P w K mg base 1 f2 fd2 ["_law_power"] A7e) (O:Own mg):sI P w K mg base 2 f fd Q16 C9z:=by
 refine D.F.okE scLFig (fun vs H Q E h=>?_) (fun X cdv A outer s H vs Q E hX hr hx h=>?_)
 . obtain⟨c,m,rfl,_⟩:=h
   rfl
 subst hX
 obtain⟨c,mo,rfl,o1,o2,k⟩:=h
 refine⟨_,(A4 (B3 (D0 (i:=2) scLFig.nd rfl (Or.inl rfl) A1)) (A4 (B3 (A9u PassesOwn.leaving rfl (B5y rfl O.range_ (A0 A1 A3)) (U1 (i:=3) scLFig.nd rfl (Or.inl rfl)) (A5 (B3 (D0 (i:=2) scLFig.nd rfl (Or.inl rfl) (A9 G9 (A9 G0 (pv 2) A1) (C4 dC dD hr hx (A0 (pv 0) (A0 (pv 3) A3))))))))) (A4 (B3 (D0 (i:=4) scLFig.nd rfl (Or.inl rfl) (C4 dC dD hr hx (A0 (pv 0) (A0 A1 A3))))) (A4 (B3 (D0 (i:=5) scLFig.nd rfl (Or.inl rfl) (D7 A0h (G4 (A0 (A9 G9 A1 (A9 U3 (A9 D6 (pv 4) A1) (pv 1))) (A0 (A9 G9 A1 (A9 U3 (A9 D6 (pv 4) A1) (G7 (A0g rfl) (by rfl) O.min_ boot_min (A0 A1 (A0 (pv 1) A3))))) (A0 (pv 1) A3)))) (A9 U3 (pv 4) A1) (fun _ _=>rfl)))) (A4 (B3 (D0 (i:=6) scLFig.nd rfl (Or.inl rfl) (A9 U3 (pv 2) (C4 dA dB hr hx (A0 (pv 5) A3))))) (A4 (B3 (D0 (i:=7) scLFig.nd rfl (Or.inl rfl) (A9 U3 (A9 D6 (pv 4) A1) A1))) (A4 (B3 (D9 (B9 D4 (pv 7) A1 (B8 _)) (A5 (B3 (D0 (i:=6) scLFig.nd rfl (Or.inl rfl) (A9 U2 (C4 dA dB hr hx (A0 (pv 5) A3)) A1)))) C6)) (A4 (B3 (D9 (B9 D4 (pv 7) A1 (B8 _)) (A4 (B3 (D0 (i:=8) scLFig.nd rfl (Or.inl rfl) (C4 dA dB hr hx (A0 (A9 U3 (A9 D6 (pv 4) A1) (pv 5)) A3)))) (A5 (B3 (D0 (i:=6) scLFig.nd rfl (Or.inl rfl) (A9 G0 (A9 D6 (pv 6) (pv 8)) (pv 8)))))) C6)) (A4 (B3 (D9 (B9 D4 (pv 7) A1 (B8 _)) (A5 (B3 (D0 (i:=6) scLFig.nd rfl (Or.inl rfl) (C4 dA dB hr hx (A0 (A9 U3 (A9 D6 (pv 4) A1) (pv 5)) A3))))) C6)) (A5 (B0 (D7 A0h (G4 (A0 (pv 6) (A0 (pv 6) (A0 A1 A3)))) (A9 G0 (Y7 A0v (by rfl) O.int_ boot_int (A0 (G3 D4 (pv 7) A1 (B8 _)) A3)) A1) (fun _ _=>rfl))))))))))))),?_⟩
 have z3:3<=sizeLine:=C7 (by decide)
 have mC:∀z n:Int, -(2^64)<n ->n<2^64 ->IntMulOk z n:=fun z n a b=>A2w.ok (.inr ⟨a,b⟩)
 refine⟨fun σ' H'=>H'=H/\σ'=[si c,si mo,si 0,none,none,none,none,none,none],⟨rfl,rfl⟩,?_⟩
 rintro σ' H1 ⟨rfl,rfl⟩
 refine⟨fun σ' H'=>H'=H1/\∃(n:Int) (v:Option V),σ'=[si c,si mo,si n,v,none,none,none,none,none],⟨7,rfl,by decide,by decide,B5q (n:=7) (fun i σ' H'=>H'=H1/\∃(n:Int) (v:Option V),σ'=[si c,si mo,si n,v,none,none,none,none,none]) ⟨rfl,0,none,rfl⟩ ?_ (fun σ' H' h=>h)⟩,?_⟩
 . rintro i σ' H3 hi ⟨rfl,n,v,rfl⟩
   refine⟨_,?_,fun _ _ h=>h⟩
   exact⟨_,rfl,_,_,rfl,rfl,mC _ _ (by decide) (by decide),_,rfl,_,rfl,c,_,rfl,(by show(0:Int)<=0+(i:Int);omega),(by show 0+(i:Int)<=100;omega),fun m' _ _=>⟨_,_,rfl,rfl,rfl,_,_,rfl⟩⟩
 refine L2.hideG fun Z_ z_=>?_
 rintro σ' H2 ⟨rfl,n,v,rfl⟩
 subst z_
 refine⟨fun σ' H'=>∃m:Int,H'=H2/\0<=m/\σ'=[si c,si mo,si n,v,si m,none,none,none,none],⟨_,rfl,c,7,rfl,by decide,by decide,fun m m0 _=>⟨m,rfl,m0,rfl⟩⟩,?_⟩
 refine L2.hideG fun Z_ z_=>?_
 rintro σ' H3 ⟨m,rfl,m0,rfl⟩
 subst z_
 let I_:L2.St ->L2.Hp ->Prop:=fun σ' H'=>∃y:Int,B5 H3 H'/\1<=y/\y<=mo/\σ'=[si c,si mo,si n,v,si m,si y,none,none,none]
 refine⟨I_,?_,?_⟩
 . have mb:0<(if mo<4 then mo else 4)/\(if mo<4 then mo else 4)<=mo:=by split<;>omega
   obtain⟨y,hy,ix⟩:=at3 (1+m/8 % mo) (1+m/8 % (if mo<4 then mo else 4)) mo m
   have a0:=Int.emod_nonneg (m/8) (show mo≠0 by omega)
   have a1:=Int.emod_lt_of_pos (m/8) (show 0<mo by omega)
   have b0:=Int.emod_nonneg (m/8) (show(if mo<4 then mo else 4)≠0 by omega)
   have b1:=Int.emod_lt_of_pos (m/8) mb.1
   refine⟨_,rfl,_,_,rfl,rfl,dv (n:=8) (by decide) (by decide+kernel),_,rfl,_,_,rfl,rfl,(show 0<mo by omega),_,_,rfl,rfl,_,rfl,_,_,rfl,rfl,dv (n:=8) (by decide) (by decide+kernel),_,rfl,_,_,rfl,_,_,rfl,rfl,mb.1,_,_,rfl,rfl,_,rfl,z3,fun p np=>⟨_,rfl,_,_,rfl,rfl,(by decide:(0:Int)<3),p,_,_,_,rfl,rfl,SqL.of A6,ix,y,B5.upd np,?_,?_,rfl⟩⟩
   . rcases hy with rfl|rfl|rfl<;>omega
   . rcases hy with rfl|rfl|rfl<;>omega
 refine L2.hideG fun Z_ z_=>?_
 rintro σ' H4 ⟨y,s4,y1,y2,rfl⟩
 subst z_
 clear I_
 have tl:A2 y<=A2 mo:=V3 y2
 let I_:L2.St ->L2.Hp ->Prop:=fun σ' H'=>∃g:Int,H'=H4/\0<=g/\g<A2 mo/\σ'=[si c,si mo,si n,v,si m,si y,si g,none,none]
 refine⟨I_,?_,?_⟩
 . exact⟨_,rfl,_,rfl,y,rfl,by omega,by omega,_,_,rfl,rfl,C8 _,_,rfl,Int.emod_nonneg _ (Int.ne_of_gt (C8 _)),Int.lt_of_lt_of_le (Int.emod_lt_of_pos _ (C8 _)) tl,rfl⟩
 refine L2.hideG fun Z_ z_=>?_
 rintro σ' H5 ⟨g,rfl,g0,g1,rfl⟩
 subst z_
 clear I_
 refine⟨fun σ' H'=>∃w:Int,H'=H5/\σ'=[si c,si mo,si n,v,si m,si y,si g,si w,none],⟨_,rfl,_,_,rfl,rfl,dv (n:=480) (by decide) (by decide+kernel),_,_,rfl,rfl,(by decide:(0:Int)<9),_,rfl,rfl⟩,?_⟩
 refine L2.hideG fun Z_ z_=>?_
 rintro σ' H6 ⟨wy,rfl,rfl⟩
 subst z_
 let I_:L2.St ->L2.Hp ->Prop:=fun σ' H'=>∃g:Int,H'=H6/\0<=g/\g<A2 mo/\σ'=[si c,si mo,si n,v,si m,si y,si g,si wy,none]
 refine⟨I_,?_,?_⟩
 . refine⟨_,rfl,rfl,_,rfl,G8 (fun h=>?_) (fun h=>⟨g,rfl,g0,g1,rfl⟩)⟩
   refine⟨_,?_,fun _ _ h=>h⟩
   have tp:=C8 y
   exact⟨_,rfl,y,rfl,by omega,by omega,_,_,rfl,rfl,A2 y-1,rfl,by omega,by omega,rfl⟩
 clear g0 g1
 refine L2.hideG fun Z_ z_=>?_
 rintro σ' H7 ⟨g,rfl,g0,g1,rfl⟩
 subst z_
 clear I_
 have e0:=Int.emod_nonneg (m/4320) (show y≠0 by omega)
 have e1:=Int.emod_lt_of_pos (m/4320) (show 0<y by omega)
 let I_:L2.St ->L2.Hp ->Prop:=fun σ' H'=>∃(g:Int) (u:Option V),H'=H7/\0<=g/\g<A2 mo/\σ'=[si c,si mo,si n,v,si m,si y,si g,si wy,u]
 refine⟨I_,?_,?_⟩
 . refine⟨_,rfl,rfl,_,rfl,G8 (fun h=>?_) (fun h=>⟨g,none,rfl,g0,g1,rfl⟩)⟩
   refine⟨fun σ' H'=>H'=H7/\σ'=[si c,si mo,si n,v,si m,si y,si g,si wy,si (A2 (m/4320 % y))],⟨_,rfl,_,_,rfl,rfl,dv (n:=4320) (by decide) (by decide+kernel),_,rfl,_,_,rfl,rfl,(show 0<y by omega),m/4320 % y,rfl,by omega,by omega,rfl,rfl⟩,?_⟩
   rintro σ' H8 ⟨rfl,rfl⟩
   refine⟨_,?_,fun _ _ h=>h⟩
   have tp:=C8 (m/4320 % y)
   have q0:0<=g/A2 (m/4320 % y):=Int.ediv_nonneg g0 (Int.le_of_lt tp)
   have q1:g/A2 (m/4320 % y)*A2 (m/4320 % y)<=g:=Int.ediv_mul_le _ (Int.ne_of_gt tp)
   have q2:g/A2 (m/4320 % y)<=g:=Int.ediv_le_self _ g0
   have t60:A2 mo<=A2 60:=V3 o2
   refine⟨_,rfl,_,rfl,_,_,rfl,rfl,C4n (by omega),_,rfl,_,_,rfl,rfl,IntMulOk.of_bits (G7z q0 (by omega)) (A9s (by omega)),_,_,rfl,Int.mul_nonneg q0 (Int.le_of_lt tp),Int.lt_of_le_of_lt q1 g1,rfl⟩
 clear g0 g1
 refine L2.hideG fun Z_ z_=>?_
 rintro σ' H8 ⟨g,u,rfl,g0,g1,rfl⟩
 subst z_
 clear I_
 let I_:L2.St ->L2.Hp ->Prop:=fun σ' H'=>∃g:Int,H'=H8/\0<=g/\g<A2 mo/\σ'=[si c,si mo,si n,v,si m,si y,si g,si wy,u]
 refine⟨I_,?_,?_⟩
 . refine⟨_,rfl,rfl,_,rfl,G8 (fun h=>?_) (fun h=>⟨g,rfl,g0,g1,rfl⟩)⟩
   refine⟨_,?_,fun _ _ h=>h⟩
   exact⟨_,rfl,_,_,rfl,rfl,dv (n:=4320) (by decide) (by decide+kernel),_,rfl,_,_,rfl,rfl,(show 0<y by omega),m/4320 % y,rfl,by omega,by omega,_,rfl,Int.le_of_lt (C8 _),G5k (by omega) e0,rfl⟩
 clear g0 g1
 refine L2.hideG fun Z_ z_=>?_
 rintro σ' H9 ⟨g,rfl,g0,g1,rfl⟩
 subst z_
 clear I_
 refine⟨_,rfl,_,rfl,z3,fun p np=>⟨_,rfl,rfl,.inr ⟨_,rfl,_,_,rfl,rfl,mC _ _ (by decide) (by decide),?_⟩⟩⟩
 have s9:B5 H3 (upd H9 p (.lst [.int g,.int g,.int 0])):=s4.trans (B5.upd np)
 cases decide (V.int wy=V.int 4) with
 |true=>exact⟨p,_,_,_,rfl,rfl,SqL.of A6,C0 (j:=2) rfl,k 0 _ (Int.le_refl _) (C8 _) s9⟩
 |false=>exact⟨p,_,_,_,rfl,rfl,SqL.of A6,C0 (j:=0) rfl,k g _ g0 g1 s9⟩
noncomputable def frV (r:Int) (y:Wy) (l m:Int):List V:=[.int r,.str y.name,.int l,.int m]
noncomputable def B8y:Sp:=fun vs H Q _=>∃c:Int,vs=[.int c]/\0<=c/\∀r y l m q H',B1y r l m ->B5 H H' ->H' q=some (.tup (frV r y l m)) ->Q (.ref q) H'
theorem scLFrame:B7 ["_law_cell","_law_names","_law_room","_law_least","_law_most"] ["_law_cell"] (A7 B1n):=scK
theorem C8r(D:Def K mg "_law_frame" ["_law_cell"] B1n f fd):sI P w K mg base 1 f fd ["_law_cell"] B8y:=by
 refine D.F.okE scLFrame (fun vs H Q E h=>?_) (fun X cdv A outer s H vs Q E hX hr hx h=>?_)
 . obtain⟨c,rfl,_⟩:=h
   rfl
 subst hX
 obtain⟨c,rfl,c0,k⟩:=h
 refine⟨_,(A4 (B3 (D0 (i:=1) scLFrame.nd rfl (Or.inl rfl) (G4 (A0 C5 (A0 C5 (A0 C5 (A0 C5 (A0 C5 (A0 C5 (A0 C5 (A0 C5 A3))))))))))) (A4 (B3 (D0 (i:=2) scLFrame.nd rfl (Or.inl rfl) (D7 A0h (G4 (A0 (A9 G9 A1 (A9 U3 (A9 D6 (pv 0) A1) A1)) (A0 (A9 G9 A1 (A9 U3 (A9 D6 (pv 0) A1) A1)) (A0 A1 A3)))) (A9 U3 (pv 0) A1) (fun _ _=>rfl)))) (A4 (B3 (D0 (i:=3) scLFrame.nd rfl (Or.inl rfl) (D7 A0h (G4 (A0 (A4z A2c A1) (A0 (A4z A2c (A9 U3 (A9 D6 (pv 0) A1) A1)) (A0 (A4z A2c (A9 U3 (A9 D6 (pv 0) A1) A1)) A3)))) (A9 U3 (A9 D6 (pv 0) A1) A1) (fun _ _=>rfl)))) (A4 (B3 (D0 (i:=4) scLFrame.nd rfl (Or.inl rfl) (D7 A0h (G4 (A0 A1 (A0 (A9 U3 (A9 D6 (pv 0) A1) A1) (A0 (A9 U3 (A9 D6 (pv 0) A1) A1) A3)))) (A9 U3 (A9 D6 (pv 0) A1) A1) (fun _ _=>rfl)))) (A5 (B0 (U4 (A0 (pv 2) (A0 (D7 A0h (pv 1) (A9 U3 (A9 D6 (pv 0) A1) A1) (fun _ _=>rfl)) (A0 (pv 3) (A0 (pv 4) A3))))))))))),?_⟩
 have z8:8<=sizeLine:=C7 (by decide)
 have z4:4<=sizeLine:=C7 (by decide)
 have z3:3<=sizeLine:=C7 (by decide)
 refine⟨fun σ' H'=>∃a,B5 H H'/\H' a=some (.lst [.str "down",.str "up",.str "floor",.str "ceiling",.str "half up",.str "half down",.str "half even",.str "five up"])/\σ'=[si c,sr a,none,none,none],⟨z8,fun a n=>⟨a,B5.upd n,A6,rfl⟩⟩,?_⟩
 refine L2.hideG fun Z_ z_=>?_
 rintro σ' H1 ⟨a,s1,ea,rfl⟩
 subst z_
 let I_:L2.St ->L2.Hp ->Prop:=fun σ' H'=>∃r:Int,B5 H1 H'/\1<=r/\r<=24/\σ'=[si c,sr a,si r,none,none]
 refine⟨I_,?_,?_⟩
 . obtain⟨r,hr,ix⟩:=at3 (1+c/3 % 4) (1+c/3 % 24) 5 c
   refine⟨_,rfl,_,_,rfl,rfl,dv (n:=3) (by decide) (by decide+kernel),_,_,rfl,rfl,(by decide:(0:Int)<4),_,_,rfl,rfl,_,rfl,_,_,rfl,rfl,dv (n:=3) (by decide) (by decide+kernel),_,_,rfl,rfl,(by decide:(0:Int)<24),_,_,rfl,rfl,z3,fun p np=>⟨_,rfl,_,_,rfl,rfl,(by decide:(0:Int)<3),p,_,_,_,rfl,rfl,SqL.of A6,ix,r,B5.upd np,?_,?_,rfl⟩⟩
   . rcases hr with rfl|rfl|rfl<;>omega
   . rcases hr with rfl|rfl|rfl<;>omega
 refine L2.hideG fun Z_ z_=>?_
 rintro σ' H2 ⟨r,s2,r1,r2,rfl⟩
 subst z_
 clear I_
 let I_:L2.St ->L2.Hp ->Prop:=fun σ' H'=>∃l:Int,B5 H1 H'/\ -60<=l/\l<=0/\σ'=[si c,sr a,si r,si l,none]
 refine⟨I_,?_,?_⟩
 . obtain⟨l,hl,ix⟩:=at3 (-60) (-(c/72 % 61)) (-(c/72 % 6)) (c/576)
   refine⟨_,rfl,_,rfl,_,_,rfl,rfl,dv (n:=72) (by decide) (by decide+kernel),_,_,rfl,rfl,(by decide:(0:Int)<61),_,rfl,_,rfl,_,_,rfl,rfl,dv (n:=72) (by decide) (by decide+kernel),_,_,rfl,rfl,(by decide:(0:Int)<6),_,rfl,z3,fun p np=>⟨_,rfl,_,_,rfl,rfl,dv (n:=576) (by decide) (by decide+kernel),_,_,rfl,rfl,(by decide:(0:Int)<3),p,_,_,_,rfl,rfl,SqL.of A6,ix,l,s2.trans (B5.upd np),?_,?_,rfl⟩⟩
   . rcases hl with rfl|rfl|rfl<;>omega
   . rcases hl with rfl|rfl|rfl<;>omega
 refine L2.hideG fun Z_ z_=>?_
 rintro σ' H3 ⟨l,s3,l1,l2,rfl⟩
 subst z_
 clear I_
 let I_:L2.St ->L2.Hp ->Prop:=fun σ' H'=>∃m:Int,B5 H1 H'/\0<=m/\m<=60/\σ'=[si c,sr a,si r,si l,si m]
 refine⟨I_,?_,?_⟩
 . obtain⟨m,hm,ix⟩:=at3 60 (c/1728 % 61) (c/1728 % 6) (c/105408)
   refine⟨_,rfl,_,_,rfl,rfl,dv (n:=1728) (by decide) (by decide+kernel),_,_,rfl,rfl,(by decide:(0:Int)<61),_,rfl,_,_,rfl,rfl,dv (n:=1728) (by decide) (by decide+kernel),_,_,rfl,rfl,(by decide:(0:Int)<6),z3,fun p np=>⟨_,rfl,_,_,rfl,rfl,dv (n:=105408) (by decide) (by decide+kernel),_,_,rfl,rfl,(by decide:(0:Int)<3),p,_,_,_,rfl,rfl,SqL.of A6,ix,m,s3.trans (B5.upd np),?_,?_,rfl⟩⟩
   . rcases hm with rfl|rfl|rfl<;>omega
   . rcases hm with rfl|rfl|rfl<;>omega
 refine L2.hideG fun Z_ z_=>?_
 rintro σ' H4 ⟨m,s4,m1,m2,rfl⟩
 subst z_
 clear I_
 obtain⟨y,ix⟩:=at8 (c/72)
 refine⟨_,rfl,_,rfl,_,rfl,_,_,rfl,rfl,dv (n:=72) (by decide) (by decide+kernel),_,_,rfl,rfl,(by decide:(0:Int)<8),a,_,_,_,rfl,rfl,SqL.of (s4 _ _ ea),ix,_,rfl,_,rfl,z4,fun q nq=>?_⟩
 exact k r y l m q _ ⟨r1,r2,l1,l2,m1,m2⟩ (s1.trans (s4.trans (B5.upd nq))) A6
noncomputable def D0g (CC:Addr):Sp:=fun vs H Q _=>∃q r y l m,vs=[.ref q]/\H q=some (.tup (frV r y l m))/\B1y r l m/\∀c a b H',H c=none ->B5 H H' ->Y2 CC H' c ⟨r,y,l,m⟩ a b [] [] ->Q (.ref c) H'
theorem G6v:B7 Q33 Q33 (A7 C5v):=scK
theorem G0w{f fI CC CB:Addr}{fd fdI:FuncData}(D:Def K mg "_law_context" Q33 C5v f fd)(MC:G4t P w K mg base CC CB fI fdI)(B4:L2.Binds K fdI Q39 [])(C:B0d K mg CC):sI P w K mg base 5 f fd Q33 (D0g CC):=by
 refine D.F.okE G6v (fun vs H Q E h=>?_) (fun X cdv A outer s H vs Q E hX hr hx h=>?_)
 . obtain⟨q,r,y,l,m,rfl,_⟩:=h
   rfl
 subst hX
 obtain⟨q,r,y,l,m,rfl,eq,fr,k⟩:=h
 refine⟨_,(A5 (B0 (A3n MC.m MC.g hr C.g B4 .nil hx (A0 (D7 D8 (pv 0) A1 (fun _ _=>rfl)) (A0 (D7 D8 (pv 0) A1 (fun _ _=>rfl)) (A0 (D7 D8 (pv 0) A1 (fun _ _=>rfl)) (A0 (D7 D8 (pv 0) A1 (fun _ _=>rfl)) A3))))))),?_⟩
 refine⟨_,rfl,q,_,_,_,rfl,rfl,SqT.of eq,C0 (j:=0) rfl,_,rfl,q,_,_,_,rfl,rfl,SqT.of eq,C0 (j:=1) rfl,_,rfl,q,_,_,_,rfl,rfl,SqT.of eq,C0 (j:=2) rfl,_,rfl,q,_,_,_,rfl,rfl,SqT.of eq,C0 (j:=3) rfl,fun x dx n1 n2 ne=>?_⟩
 exact J1d n1 n2 ne rfl fr.r1 fr.r2 rfl (.inr ⟨rfl,fr.l1,fr.l2⟩) rfl fr.m1 fr.m2 fun a b H4 s4 hc=>⟨rfl,k x a b H4 n1 s4 hc⟩
noncomputable def Nm.pv (x:Nm):List V:=[.int x.s,.int x.f,.int x.p]
noncomputable def C0e:Sp:=fun vs H Q _=>∃c m:Int,vs=[.int c,.int m]/\1<=m/\m<=60/\∀(x:Nm) q H',x.k= .plain ->x.Ok ->x.f<A2 m ->B5 H H' ->H' q=some (.tup x.pv) ->Q (.ref q) H'
theorem scLPlain:B7 ["_law_cell","_law_most","_law_more","_law_power"] Q16 (A7 B1u):=scK
theorem C8w(D:Def K mg "_law_plain" Q16 B1u f fd)(dA:Def K mg "_law_mixed" Q15 A9n f1 fd1)(dB:sI P w K mg base 1 f1 fd1 Q15 B1q)
   (dC:Def K mg "_law_figures" Q16 C6b f2 fd2) (dD:sI P w K mg base 2 f2 fd2 Q16 C9z):sI P w K mg base 3 f fd Q16 C0e:=by
 refine D.F.okE scLPlain (fun vs H Q E h=>?_) (fun X cdv A outer s H vs Q E hX hr hx h=>?_)
 . obtain⟨c,m,rfl,_⟩:=h
   rfl
 subst hX
 obtain⟨c,mo,rfl,o1,o2,k⟩:=h
 refine⟨_,(A4 (B3 (D0 (i:=2) scLPlain.nd rfl (Or.inl rfl) (C4 dA dB hr hx (A0 (pv 0) (A0 A1 A3))))) (A4 (B3 (D0 (i:=3) scLPlain.nd rfl (Or.inl rfl) (D7 A0h (G4 (A0 (A9 U2 (A9 U3 (A9 D6 (pv 2) A1) A1) A1) (A0 (A9 U2 (A9 U3 (A9 D6 (pv 2) A1) A1) A1) (A0 (A9 U2 (A9 U3 (A9 D6 (pv 2) A1) A1) A1) (A0 (A9 U2 (A9 U3 (A9 D6 (pv 2) A1) A1) A1) A3))))) (A9 D6 (A9 U3 (A9 D6 (pv 2) A1) A1) A1) (fun _ _=>rfl)))) (A5 (B0 (U4 (A0 (A9 U3 (pv 2) A1) (A0 (C4 dC dD hr hx (A0 (pv 0) (A0 (pv 1) A3))) (A0 (pv 3) A3)))))))),?_⟩
 have z4:4<=sizeLine:=C7 (by decide)
 have z3:3<=sizeLine:=C7 (by decide)
 have d2:=dv (n:=2) (by decide) (by decide+kernel)
 refine⟨fun σ' H'=>∃m:Int,H'=H/\0<=m/\σ'=[si c,si mo,si m,none],⟨_,rfl,c,9,rfl,by decide,by decide,fun m m0 _=>⟨m,rfl,m0,rfl⟩⟩,?_⟩
 refine L2.hideG fun Z_ z_=>?_
 rintro σ' H1 ⟨m,rfl,m0,rfl⟩
 subst z_
 let I_:L2.St ->L2.Hp ->Prop:=fun σ' H'=>∃p:Int,B5 H1 H'/\ -200<=p/\p<=200/\σ'=[si c,si mo,si m,si p]
 refine⟨I_,?_,?_⟩
 . obtain⟨p,hp,ix⟩:=at4 (m/2 % 13-6) (m/2 % 61-30) (m/2 % 401-200) (m/2 % 3-1) (m/802)
   refine⟨_,rfl,_,_,rfl,rfl,d2,_,_,rfl,rfl,(by decide:(0:Int)<13),_,_,rfl,rfl,_,rfl,_,_,rfl,rfl,d2,_,_,rfl,rfl,(by decide:(0:Int)<61),_,_,rfl,rfl,_,rfl,_,_,rfl,rfl,d2,_,_,rfl,rfl,(by decide:(0:Int)<401),_,_,rfl,rfl,_,rfl,_,_,rfl,rfl,d2,_,_,rfl,rfl,(by decide:(0:Int)<3),_,_,rfl,rfl,z4,fun q nq=>⟨_,rfl,_,_,rfl,rfl,dv (n:=802) (by decide) (by decide+kernel),_,_,rfl,rfl,(by decide:(0:Int)<8),_,_,rfl,rfl,d2,q,_,_,_,rfl,rfl,SqL.of A6,ix,p,B5.upd nq,?_,?_,rfl⟩⟩
   . rcases hp with rfl|rfl|rfl|rfl<;>omega
   . rcases hp with rfl|rfl|rfl|rfl<;>omega
 refine L2.hideG fun Z_ z_=>?_
 rintro σ' H2 ⟨p,s2,p0,p1,rfl⟩
 subst z_
 clear I_
 have a0:=Int.emod_nonneg m (by decide:(2:Int)≠0)
 have a1:=Int.emod_lt_of_pos m (by decide:(0:Int)<2)
 have t60:A2 mo<=A2 60:=V3 o2
 have e60:A2 60=10^60:=by decide+kernel
 refine⟨_,rfl,_,_,rfl,rfl,(by decide:(0:Int)<2),_,rfl,_,rfl,c,mo,rfl,o1,o2,fun f H' f0 f1 s'=>⟨_,rfl,z3,fun q nq=>?_⟩⟩
 exact k ⟨.plain,m % 2,f,p⟩ q _ rfl ⟨a0,by show m % 2<=1;omega,f0,by show f<=10^60-1;omega,p0,p1⟩ f1 (s2.trans (s'.trans (B5.upd nq))) A6
noncomputable abbrev A6b:Stmt:=(top 86)
noncomputable abbrev B1x:Stmt:=(top 87)
noncomputable abbrev D0a:Stmt:=(top 88)
noncomputable abbrev B8h:Stmt:=(top 89)
noncomputable abbrev B6w:Stmt:=(top 90)
noncomputable abbrev B1w:Stmt:=(top 91)
noncomputable abbrev A3m:Stmt:=(top 93)
noncomputable def Wy.code:Wy ->Nat
 | .down=>0
 | .up=>1
 | .floor=>2
 | .ceiling=>3
 | .halfUp=>4
 | .halfDown=>5
 | .halfEven=>6
 | .fiveUp=>7
theorem nW{y z:Wy}(h:y.code≠z.code):¬V.str y.name=V.str z.name:=fun q=>h (by rw[Wy.inj (V.str.inj q)])
theorem G6j{a b:Int}(h:0<a)(h2:b<2*a):Z3 a b=3:=by
 unfold Z3
 rw[decide_eq_true h,decide_eq_true (show b<=2*a by omega),decide_eq_true h2]
 rfl
theorem G8c{a b:Int}(h:0<a)(h2:2*a=b):Z3 a b=2:=by
 unfold Z3
 rw[decide_eq_true h,decide_eq_true (show b<=2*a by omega),decide_eq_false (show¬b<2*a by omega)]
 rfl
theorem G5z{a b:Int}(h:0<a)(h2:2*a<b):Z3 a b=1:=by
 unfold Z3
 rw[decide_eq_true h,decide_eq_false (show¬b<=2*a by omega),decide_eq_false (show¬b<2*a by omega)]
 rfl
theorem G6h{a b:Int}(h:a=0)(hb:0<b):Z3 a b=0:=by
 subst h
 unfold Z3
 rw[decide_eq_false (show¬(0:Int)<0 by omega),decide_eq_false (show¬b<=2*0 by omega),decide_eq_false (show¬b<2*0 by omega)]
 rfl
noncomputable def B6b (H:Hp) (q:Addr) (x:Nm) (zs:List Str):Prop:=∃t l,H q=some (.tup [.ref t,.ref l])/\H t=some (.tup x.vs)/\H l=some (.lst (zs.map V.str))
inductive Lv where
 |rat (t b n:Int)
 |roo (t n:Int)
noncomputable def Z4 (t b:Int):Int:=if t*A2 (-(V0 t-V0 b))<b*A2 (V0 t-V0 b) then V0 t-V0 b-1 else V0 t-V0 b
noncomputable def A0f (t n:Int):Int:=(V0 t-1+n)/2
noncomputable def Lv.vs:Lv ->List V
 | .rat t b n=>[.int t,.int b,.int n,.bl false]
 | .roo t n=>[.int t,.int 1,.int n,.bl true]
noncomputable def Lv.L:Lv ->Int
 | .rat t b n=>n+Z4 t b
 | .roo t n=>A0f t n
noncomputable def Lv.wh:Lv ->Int ->Int
 | .rat t b n,p=>whI t b (n-p)
 | .roo t n,p=>whQ t (n-2*p)
noncomputable def Lv.pt:Lv ->Int ->Int
 | .rat t b n,p=>ptI t b (n-p)
 | .roo t n,p=>A8j t (n-2*p) (whQ t (n-2*p))
noncomputable def Lv.Ok:Lv ->Prop
 | .rat t b _=>Sz t/\Sz b
 | .roo t n=>SzQ t/\ -200<=n/\n<=200
noncomputable def Lv.In:Lv ->Int ->Prop
 | .rat _ _ n,p=> -1500<=n-p/\n-p<=1500
 | .roo _ n,p=> -200<=n-2*p/\n-2*p<=200
theorem C7p{f:Int}(h0:0<=f)(h:f<=9):V0 f=1:=by
 have a:∀n:Fin 10,V0 (n.val:Int)=1:=by decide+kernel
 obtain⟨n,rfl⟩:=Int.eq_ofNat_of_zero_le h0
 exact a ⟨n,by omega⟩
theorem G1s{f:Int}(h:9<f):V0 f=V0 (f/10)+1:=by
 obtain⟨n,rfl⟩:∃n:Nat,f=(n:Int):=⟨f.toNat,by omega⟩
 obtain⟨j,a,b⟩:=A4u n (by omega)
 rcases j with _|j
 . exfalso
   have:n<10:=by simpa using b
   omega
 rw[A2y b a,show(n:Int)/10=((n/10:Nat):Int) by omega]
 rw[Nat.pow_succ] at a b
 rw[A2y (n:=n/10) (j:=j) (by omega) (by omega)]
 omega
theorem A3y{t:Int}(h:Sz t):A2 (V0 t-1)<=t/\t<A2 (V0 t)/\1<=V0 t:=by
 obtain⟨n,rfl,h1,_⟩:=h.nat
 obtain⟨j,a,b⟩:=A4u n h1
 rw[A2y b a]
 have e1:A2 ((j:Int)+1-1)=((10^j:Nat):Int):=by unfold A2;rw[show((j:Int)+1-1).toNat=j by omega]
 have e2:A2 ((j:Int)+1)=((10^(j+1):Nat):Int):=by unfold A2;rw[show((j:Int)+1).toNat=j+1 by omega]
 rw[e1,e2]
 exact⟨Int.ofNat_le.mpr a,Int.ofNat_lt.mpr b,by omega⟩
theorem C5r{t b s s0:Int}(hb:0<b)(ht:0<t)(h:A0m t b s0)(e:s0<=s):b*A2 (-s)<=t*A2 s:=by
 have c:=Z6 e
 have p0:=C8 (-s0)
 have p1:=C8 (s-s0)
 have q:t*A2 s*A2 (-s0)=t*A2 s0*A2 (-s)*A2 (s-s0):=by
   calc t*A2 s*A2 (-s0)=t*(A2 s*A2 (-s0)):=by ac_rfl
     _=t*(A2 s0*A2 (-s)*A2 (s-s0)):=by rw[c]
     _=t*A2 s0*A2 (-s)*A2 (s-s0):=by ac_rfl
 have a1:b*A2 (-s0)*A2 (-s)<=t*A2 s0*A2 (-s):=Int.mul_le_mul_of_nonneg_right h.1 (Int.le_of_lt (C8 _))
 have a2:t*A2 s0*A2 (-s)*1<=t*A2 s0*A2 (-s)*A2 (s-s0):=Int.mul_le_mul_of_nonneg_left (by omega) (Int.le_of_lt (Int.mul_pos (Int.mul_pos ht (C8 _)) (C8 _)))
 have e2:b*A2 (-s)*A2 (-s0)=b*A2 (-s0)*A2 (-s):=by ac_rfl
 exact Int.le_of_mul_le_mul_right (by rw[e2,q];omega) p0
theorem G2p{t b s s0:Int}(ht:0<t)(h:A0m t b s0)(e:s<s0):t*A2 s<b*A2 (-s):=by
 have c:=Z6 (Int.le_of_lt e)
 have g:=C4d (d:=s0-s) (by omega)
 have p0:=C8 (-s0)
 have q:t*A2 s0*A2 (-s)=t*A2 s*A2 (-s0)*A2 (s0-s):=by
   calc t*A2 s0*A2 (-s)=t*(A2 s0*A2 (-s)):=by ac_rfl
     _=t*(A2 s*A2 (-s0)*A2 (s0-s)):=by rw[c]
     _=t*A2 s*A2 (-s0)*A2 (s0-s):=by ac_rfl
 have a1:t*A2 s0*A2 (-s)<10*(b*A2 (-s0))*A2 (-s):=Int.mul_lt_mul_of_pos_right h.2 (C8 _)
 have a2:t*A2 s*A2 (-s0)*10<=t*A2 s*A2 (-s0)*A2 (s0-s):=Int.mul_le_mul_of_nonneg_left g (Int.le_of_lt (Int.mul_pos (Int.mul_pos ht (C8 _)) p0))
 have e2:10*(b*A2 (-s0))*A2 (-s)=b*A2 (-s)*A2 (-s0)*10:=by ac_rfl
 have a3:t*A2 s*A2 (-s0)*10<b*A2 (-s)*A2 (-s0)*10:=by rw[<-e2];rw[q] at a1;omega
 exact Int.lt_of_mul_lt_mul_right (Int.lt_of_mul_lt_mul_right a3 (by decide)) (Int.le_of_lt p0)
theorem C9u{t b s s0:Int}(hb:0<b)(ht:0<t)(h:A0m t b s0):whI t b s=0↔s<s0:=by
 have lp:0<b*A2 (-s):=Int.mul_pos hb (C8 _)
 have tp:0<=t*A2 s:=Int.le_of_lt (Int.mul_pos ht (C8 _))
 unfold whI
 constructor
 . intro z
   apply Classical.byContradiction
   intro hh
   have a:=C5r hb ht h (show s0<=s by omega)
   have b1:1<=t*A2 s/(b*A2 (-s)):=(Int.le_ediv_iff_mul_le lp).mpr (by rw[Int.one_mul];exact a)
   omega
 intro e
 exact Int.ediv_eq_zero_of_lt tp (G2p ht h e)
theorem C9w{t b s0:Int}(ht:Sz t)(hb:Sz b)(h:A0m t b s0):V0 b-V0 t-1<=s0:=by
 obtain⟨a1,a2,a3⟩:=A3y ht
 obtain⟨b1,b2,b3⟩:=A3y hb
 apply Classical.byContradiction
 intro z
 have g:=C5r (s:=V0 b-V0 t-1) (by have:=hb.1;omega) (by have:=ht.1;omega) h (by omega)
 generalize V0 t=T at*
 generalize V0 b=B at*
 have e:A2 T*A2 (B-T-1)=A2 (B-1)*A2 (-(B-T-1)):=by
   have c:=Z6 (s:=B-T-1) (r:=B-1) (by omega)
   rw[c,show A2 (-(B-1))=1 by unfold A2;rw[Int.toNat_of_nonpos (by omega)];rfl,Int.mul_one,Int.mul_comm,show B-1-(B-T-1)=T by omega]
 have c1:t*A2 (B-T-1)<A2 T*A2 (B-T-1):=Int.mul_lt_mul_of_pos_right a2 (C8 _)
 have c2:A2 (B-1)*A2 (-(B-T-1))<=b*A2 (-(B-T-1)):=Int.mul_le_mul_of_nonneg_right b1 (Int.le_of_lt (C8 _))
 omega
theorem G5e(r:Int)(y:Wy)(l m L:Int):(if l>L then l else L)-r+1=Cv.fin ⟨r,y,l,m⟩ L:=by
 unfold Cv.fin A3t
 dsimp only
 split<;>split<;>omega
theorem part_of{a b:Int}(hb:0<b)(h:0<a):2+(if decide (2*a-b>0)=true then(1:Int) else 0)- (if decide (2*a-b<0)=true then(1:Int) else 0)=Z3 a b:=by
 rcases(by omega:2*a<b\/2*a=b\/b<2*a) with h2|h2|h2
 . rw[G5z h h2,decide_eq_false (by omega),decide_eq_true (by omega)];rfl
 . rw[G8c h h2,decide_eq_false (by omega),decide_eq_false (by omega)];rfl
 rw[G6j h h2,decide_eq_true (by omega),decide_eq_false (by omega)];rfl
theorem A5x(e:Int):A2 (if e>0 then e else 0)=A2 e:=by
 unfold A2
 split
 . rfl
 rw[show e.toNat=0 by omega];rfl
noncomputable def A8s:Sp:=fun vs H Q _=>∃n:Int,vs=[.int n]/\0<=n/\Q (.int (V0 n)) H
theorem scLCount:B7 ["_law_figures_here","_law_many"] Q18 (A7 A6b):=scK
theorem C9e(D:Def K mg "_law_count" Q18 A6b f fd):sI P w K mg base 1 f fd Q18 A8s:=by
 refine D.F.okE scLCount (fun vs H Q E h=>?_) (fun X cdv A outer s H vs Q E hX hr hx h=>?_)
 . obtain⟨n,rfl,_⟩:=h
   rfl
 subst hX
 obtain⟨n,rfl,n0,k⟩:=h
 refine⟨_,(A4 (B3 (D0 (i:=1) scLCount.nd rfl (Or.inl rfl) A1)) (A4 (B3 (A1y PassesOwn.leaving (B9 A5a (pv 0) A1 (B8 _)) (A4 (B3 (D0 (i:=0) scLCount.nd rfl (Or.inl rfl) (A9 D6 (pv 0) A1))) (A5 (B3 (D0 (i:=1) scLCount.nd rfl (Or.inl rfl) (A9 G9 (pv 1) A1))))))) (A5 (B0 (pv 1))))),?_⟩
 refine⟨fun σ' H'=>H'=H/\σ'=[si n,si 1],⟨rfl,rfl⟩,?_⟩
 rintro σ' H1 ⟨rfl,rfl⟩
 let I_:L2.St ->L2.Hp ->Prop:=fun σ' H'=>H'=H1/\∃f:Int,σ'=[si f,si (V0 n)]
 refine⟨I_,?_,?_⟩
 . refine A1b (fun σ H3=>H3=H1/\∃f m:Int,0<=f/\V0 f+m-1=V0 n/\σ=[si f,si m]) (fun σ _=>match σ with| [some (.int f),_]=>f.toNat|_=>0) ⟨rfl,n,1,n0,by omega,rfl⟩ ?_ ?_
   . rintro σ H3 ⟨rfl,f,m,f0,e,rfl⟩
     refine⟨_,rfl,_,_,rfl,rfl,_,rfl,G8 (fun h=>?_) (fun h=>?_)⟩
     . have h:f>9:=h
       refine⟨fun σ' H'=>H'=H3/\σ'=[si (f/10),si m],⟨_,rfl,_,_,rfl,rfl,dv (n:=10) (by decide) (by decide+kernel),rfl,rfl⟩,?_⟩
       rintro σ' H4 ⟨rfl,rfl⟩
       refine⟨_,?_,fun _ _ h=>h⟩
       have:=G1s (f:=f) h
       refine⟨_,rfl,_,_,rfl,rfl,⟨rfl,f/10,m+1,by omega,by omega,rfl⟩,?_⟩
       show(f/10).toNat<f.toNat
       omega
     . have h:¬f>9:=h
       have:=C7p f0 (by omega)
       refine⟨rfl,f,?_⟩
       rw[show V0 n=m by omega]
   . rintro σ H3 Q1 Q2 hQ ⟨v1,e1,a1,a2,f1,f2,bb,eb,q⟩
     exact⟨v1,e1,a1,a2,f1,f2,bb,eb,hQ _ _ q⟩
 refine L2.hideG fun Z_ z_=>?_
 rintro σ' H2 ⟨rfl,f,rfl⟩
 subst z_
 clear I_
 exact⟨_,rfl,k⟩
noncomputable def B9n:Sp:=fun vs H Q _=>∃n:Nat,vs=[.int (n:Int)]/\n<2^1000/\∀r:Nat,r*r<=n ->n<(r+1)*(r+1) ->Q (.int (r:Int)) H
theorem scLIsqrt:B7 ["_law_number","_law_found"] ["_law_number"] (A7 B1x):=scK
theorem C6r(D:Def K mg "_law_isqrt" ["_law_number"] B1x f fd):sI P w K mg base 1 f fd ["_law_number"] B9n:=by
 refine D.F.okE scLIsqrt (fun vs H Q E h=>?_) (fun X cdv A outer s H vs Q E hX hr hx h=>?_)
 . obtain⟨n,rfl,_⟩:=h
   rfl
 subst hX
 obtain⟨n,rfl,n2,k⟩:=h
 refine⟨_,(A4 (B3 (D9 (B9 A6u (pv 0) A1 (B8 _)) (A5 (B0 (pv 0))) C6)) (A4 (B3 (D0 (i:=1) scLIsqrt.nd rfl (Or.inl rfl) (A9 G5r A1 (A9 D6 (A9 G9 (B3k PySem.F.plainAttrs_int PySem.F.slot_int_bit_length PySem.F.type_int_bit_length A6s (pv 0)) A1) A1)))) (A4 (B3 (A1y PassesOwn.leaving (B9 A5a (A9 G0 (pv 1) (pv 1)) (pv 0) (B8 _)) (A5 (B3 (D0 (i:=1) scLIsqrt.nd rfl (Or.inl rfl) (A9 D6 (A9 G9 (pv 1) (A9 D6 (pv 0) (pv 1))) A1)))))) (A5 (B0 (pv 1)))))),?_⟩
 have d2:(0:Int)<2/\(2:Int).natAbs.log2<9000:=⟨by decide,by decide+kernel⟩
 let I_:L2.St ->L2.Hp ->Prop:=fun σ' H'=>H'=H/\2<=n/\σ'=[si (n:Int),none]
 refine⟨I_,?_,?_⟩
 . refine⟨_,rfl,_,_,rfl,rfl,_,rfl,G8 (fun h=>?_) (fun h=>⟨rfl,by have:¬(n:Int)<2:=h;omega,rfl⟩)⟩
   have h:(n:Int)<2:=h
   exact⟨_,rfl,k n (by rcases(by omega:n=0\/n=1) with rfl|rfl<;>decide) (by rcases(by omega:n=0\/n=1) with rfl|rfl<;>decide)⟩
 refine L2.hideG fun Z_ z_=>?_
 rintro σ' H1 ⟨rfl,n1,rfl⟩
 subst z_
 clear I_
 have lgb:n.log2<1000:=(Nat.log2_lt (by omega)).mpr n2
 let I_:L2.St ->L2.Hp ->Prop:=fun σ' H'=>H'=H1/\∃g:Nat,1<=g/\g<2^502/\n<(g+1)*(g+1)/\σ'=[si (n:Int),si (g:Int)]
 refine⟨I_,?_,?_⟩
 . have e:(Builtin.Int.intBits (n:Int):Nat)=n.log2+1:=by
     unfold Builtin.Int.intBits
     rw[if_neg (by simp;omega)]
     rfl
   refine⟨_,rfl,rfl,_,rfl,rfl,_,_,rfl,rfl,_,_,rfl,rfl,d2,_,_,rfl,rfl,⟨?_,?_,by decide⟩,rfl,2^((n.log2+2)/2),Nat.pow_pos (by decide),Nat.pow_lt_pow_right (by decide) (by omega),?_,?_⟩
   . rw[e];omega
   . rw[e];omega
   . have a:n<2^(n.log2+1):=Nat.lt_log2_self
     have b:2^(n.log2+1)<=2^((n.log2+2)/2)*2^((n.log2+2)/2):=by
       rw[<-Nat.pow_add]
       exact Nat.pow_le_pow_right (by decide) (by omega)
     have c:2^((n.log2+2)/2)*2^((n.log2+2)/2)<=(2^((n.log2+2)/2)+1)*(2^((n.log2+2)/2)+1):=Nat.mul_le_mul (Nat.le_succ _) (Nat.le_succ _)
     omega
   . show [si (n:Int),si (1*2^((((Builtin.Int.intBits (n:Int):Nat):Int)+1)/2).toNat)]=_
     rw[e,show(((n.log2+1:Nat):Int)+1)/2=(((n.log2+2)/2:Nat):Int) by omega,Int.toNat_natCast,Int.one_mul,Int.natCast_pow]
     rfl
 refine L2.hideG fun Z_ z_=>?_
 rintro σ' H2 ⟨rfl,g,g1,g2,g3,rfl⟩
 subst z_
 clear I_
 let I_:L2.St ->L2.Hp ->Prop:=fun σ' H'=>H'=H2/\∃g:Nat,g*g<=n/\n<(g+1)*(g+1)/\σ'=[si (n:Int),si (g:Int)]
 refine⟨I_,?_,?_⟩
 . refine A1b (fun σ H3=>H3=H2/\∃g:Nat,1<=g/\g<2^502/\n<(g+1)*(g+1)/\σ=[si (n:Int),si (g:Int)]) (fun σ _=>match σ with| [_,some (.int g)]=>g.toNat|_=>0) ⟨rfl,g,g1,g2,g3,rfl⟩ ?_ ?_
   . rintro σ H3 ⟨rfl,g,g1,g2,g3,rfl⟩
     have gb:Builtin.Int.intBits (g:Int)<=2^20:=A4f (k:=502) g2 (by decide)
     refine⟨_,rfl,_,rfl,_,_,rfl,rfl,IntMulOk.of_bits gb gb,_,rfl,_,_,rfl,rfl,_,rfl,G8 (fun h=>?_) (fun h=>?_)⟩
     . have h:(g:Int)*(g:Int)>(n:Int):=h
       have h:n<g*g:=by rw[<-Int.natCast_mul] at h;omega
       refine⟨_,?_,fun _ _ h=>h⟩
       have lg:0<(g:Int)/\(g:Int).natAbs.log2<9000:=⟨by omega,Nat.lt_trans (A0r (k:=502) (by rw[Int.natAbs_natCast];exact g2) (by decide)) (by decide)⟩
       have q:n/g<g:=Nat.div_lt_of_lt_mul h
       have ne:=D3h (n:=n) g1
       have g1':1<=(g+n/g)/2:=by
         apply Classical.byContradiction
         intro z
         revert ne z
         generalize n/g=d
         intro ne z
         rw[show(g+d)/2=0 by omega] at ne
         omega
       have g2':(g+n/g)/2<g:=by
         revert q
         generalize n/g=d
         intro q
         omega
       refine⟨_,rfl,_,rfl,_,rfl,_,_,rfl,rfl,lg,_,_,rfl,rfl,_,_,rfl,rfl,d2,⟨rfl,(g+n/g)/2,g1',Nat.lt_trans g2' g2,ne,?_⟩,?_⟩
       . show [si (n:Int),si (((g:Int)+(n:Int)/(g:Int))/2)]=_
         rw[show((g:Int)+(n:Int)/(g:Int))/2=(((g+n/g)/2:Nat):Int) by rw[Int.natCast_ediv,Int.natCast_add,Int.natCast_ediv];rfl]
       . show(((g:Int)+(n:Int)/(g:Int))/2).toNat<((g:Int)).toNat
         rw[show((g:Int)+(n:Int)/(g:Int))/2=(((g+n/g)/2:Nat):Int) by rw[Int.natCast_ediv,Int.natCast_add,Int.natCast_ediv];rfl,Int.toNat_natCast,Int.toNat_natCast]
         exact g2'
     . have h:¬(g:Int)*(g:Int)>(n:Int):=h
       exact⟨rfl,g,by rw[<-Int.natCast_mul] at h;omega,g3,rfl⟩
   . rintro σ H3 Q1 Q2 hQ ⟨v1,e1,v2,e2,a1,a2,f1,f2,m1,v3,e3,a3,a4,f3,f4,bb,eb,q⟩
     exact⟨v1,e1,v2,e2,a1,a2,f1,f2,m1,v3,e3,a3,a4,f3,f4,bb,eb,hQ _ _ q⟩
 refine L2.hideG fun Z_ z_=>?_
 rintro σ' H3 ⟨rfl,g,h1,h2,rfl⟩
 subst z_
 clear I_
 exact⟨_,rfl,k g h1 h2⟩
noncomputable def C5h:Sp:=fun vs H Q _=>∃(y:Wy) (s l pt:Int),vs=[.str y.name,.int s,.int l,.int pt]/\0<=s/\s<=1/\0<=l/\l<=9/\1<=pt/\pt<=3/\∀H',B5 H H' ->Q (.bl (y.goes s l pt)) H'
theorem G1k:B7 Q34 Q34 (A7 B6w):=scK
theorem D3j(D:Def K mg "_law_goes_up" Q34 B6w f fd):sI P w K mg base 1 f fd Q34 C5h:=by
 refine A8.up (D.F.ok G1k (fun vs H Q E h=>?_) (fun cdv A outer s H vs Q E hr h=>?_))
 . obtain⟨y,z,l,pt,rfl,_⟩:=h
   rfl
 obtain⟨y,z,l,pt,rfl,s0,s1,l0,l9,p1,p3,k⟩:=h
 refine⟨_,(A4 (D9 (PW.pt (B0v (B9 D4 (pv 0) C5 (B8 _)) (A5w (B9 D4 (pv 0) C5 (B8 _))))) (A5 (B0 (G3 D4 (pv 0) C5 (B8 _)))) C6) (A4 (D9 (PW.pt (B0v (B9 D4 (pv 0) C5 (B8 _)) (A5w (B9 D4 (pv 0) C5 (B8 _))))) (A5 (B0 (G3 D4 (G3 D4 (pv 1) A1 (B8 _)) (G3 D4 (pv 0) C5 (B8 _)) (B8 _)))) C6) (A4 (D9 (B9 D4 (pv 0) C5 (B8 _)) (A5 (B0 (G3 A2j (pv 2) (U4 (A0 A1 (A0 A1 A3))) (by rfl)))) C6) (A4 (D9 (B9 B0x (pv 3) A1 (B8 _)) (A5 (B0 (G3 D4 (pv 3) A1 (B8 _)))) C6) (A5 (B0 (C0j (G3 D4 (pv 0) C5 (B8 _)) (A1d (A2s (G3 D4 (pv 0) C5 (B8 _)) (A1d (G3 D4 (A9 U3 (pv 2) A1) A1 (B8 _)))))))))))),?_⟩
 have z2:2<=sizeLine:=C7 (by decide)
 have k1:=k H (B5.refl _)
 have kB:∀b:Bool,Q (.bl b) H ->∀b':Bool,b'=b ->Q (.bl b') H:=fun b h b' e=>by rw[e];exact h
 cases y with
 |down=>exact⟨_,rfl,rfl,_,rfl,A1f rfl (Y3 ⟨_,rfl,rfl,kB false k1 _ (decide_eq_false (nW (y:= .down) (z:= .up) (by decide)))⟩)⟩
 |up=>exact⟨_,rfl,rfl,_,rfl,U5 (nW (y:= .up) (z:= .down) (by decide)) ⟨_,rfl,rfl,_,rfl,A1f rfl ⟨_,rfl,rfl,kB true k1 _ (decide_eq_true rfl)⟩⟩⟩
 | floor=>
   refine⟨_,rfl,rfl,_,rfl,U5 (nW (y:= .floor) (z:= .down) (by decide)) ⟨_,rfl,rfl,_,rfl,U5 (nW (y:= .floor) (z:= .up) (by decide)) ⟨_,rfl,rfl,_,rfl,A1f rfl (Y3 ⟨_,rfl,rfl,_,rfl,rfl,rfl,?_⟩)⟩⟩⟩
   rcases(by omega:z=0\/z=1) with rfl|rfl<;>exact k1
 | ceiling=>
   refine⟨_,rfl,rfl,_,rfl,U5 (nW (y:= .ceiling) (z:= .down) (by decide)) ⟨_,rfl,rfl,_,rfl,U5 (nW (y:= .ceiling) (z:= .up) (by decide)) ⟨_,rfl,rfl,_,rfl,U5 (nW (y:= .ceiling) (z:= .floor) (by decide)) ⟨_,rfl,rfl,_,rfl,A1f rfl ⟨_,rfl,rfl,_,rfl,rfl,rfl,?_⟩⟩⟩⟩⟩
   rcases(by omega:z=0\/z=1) with rfl|rfl<;>exact k1
 | fiveUp=>
   refine⟨_,rfl,rfl,_,rfl,U5 (nW (y:= .fiveUp) (z:= .down) (by decide)) ⟨_,rfl,rfl,_,rfl,U5 (nW (y:= .fiveUp) (z:= .up) (by decide)) ⟨_,rfl,rfl,_,rfl,U5 (nW (y:= .fiveUp) (z:= .floor) (by decide)) ⟨_,rfl,rfl,_,rfl,U5 (nW (y:= .fiveUp) (z:= .ceiling) (by decide)) ⟨_,rfl,rfl,_,rfl,A1f rfl ⟨_,rfl,z2,fun p np=>⟨p,_,rfl,.inr (SqT.of A6),rfl,rfl,?_⟩⟩⟩⟩⟩⟩⟩
   exact k _ (B5.upd np)
 | halfUp=>
   refine⟨_,rfl,rfl,_,rfl,U5 (nW (y:= .halfUp) (z:= .down) (by decide)) ⟨_,rfl,rfl,_,rfl,U5 (nW (y:= .halfUp) (z:= .up) (by decide)) ⟨_,rfl,rfl,_,rfl,U5 (nW (y:= .halfUp) (z:= .floor) (by decide)) ⟨_,rfl,rfl,_,rfl,U5 (nW (y:= .halfUp) (z:= .ceiling) (by decide)) ⟨_,rfl,rfl,_,rfl,U5 (nW (y:= .halfUp) (z:= .fiveUp) (by decide)) ⟨_,rfl,rfl,_,rfl,?_⟩⟩⟩⟩⟩⟩
   rcases(by omega:pt=1\/pt=2\/pt=3) with rfl|rfl|rfl
   . exact B3t (by decide) ⟨_,rfl,rfl,k1⟩
   . exact B0z rfl ⟨_,rfl,rfl,_,rfl,A1f rfl k1⟩
   . exact B3t (by decide) ⟨_,rfl,rfl,k1⟩
 | halfDown=>
   refine⟨_,rfl,rfl,_,rfl,U5 (nW (y:= .halfDown) (z:= .down) (by decide)) ⟨_,rfl,rfl,_,rfl,U5 (nW (y:= .halfDown) (z:= .up) (by decide)) ⟨_,rfl,rfl,_,rfl,U5 (nW (y:= .halfDown) (z:= .floor) (by decide)) ⟨_,rfl,rfl,_,rfl,U5 (nW (y:= .halfDown) (z:= .ceiling) (by decide)) ⟨_,rfl,rfl,_,rfl,U5 (nW (y:= .halfDown) (z:= .fiveUp) (by decide)) ⟨_,rfl,rfl,_,rfl,?_⟩⟩⟩⟩⟩⟩
   rcases(by omega:pt=1\/pt=2\/pt=3) with rfl|rfl|rfl
   . exact B3t (by decide) ⟨_,rfl,rfl,k1⟩
   . exact B0z rfl ⟨_,rfl,rfl,_,rfl,U5 (nW (y:= .halfDown) (z:= .halfUp) (by decide)) ⟨_,rfl,rfl,_,rfl,U5 (nW (y:= .halfDown) (z:= .halfEven) (by decide)) k1⟩⟩
   . exact B3t (by decide) ⟨_,rfl,rfl,k1⟩
 | halfEven=>
   refine⟨_,rfl,rfl,_,rfl,U5 (nW (y:= .halfEven) (z:= .down) (by decide)) ⟨_,rfl,rfl,_,rfl,U5 (nW (y:= .halfEven) (z:= .up) (by decide)) ⟨_,rfl,rfl,_,rfl,U5 (nW (y:= .halfEven) (z:= .floor) (by decide)) ⟨_,rfl,rfl,_,rfl,U5 (nW (y:= .halfEven) (z:= .ceiling) (by decide)) ⟨_,rfl,rfl,_,rfl,U5 (nW (y:= .halfEven) (z:= .fiveUp) (by decide)) ⟨_,rfl,rfl,_,rfl,?_⟩⟩⟩⟩⟩⟩
   rcases(by omega:pt=1\/pt=2\/pt=3) with rfl|rfl|rfl
   . exact B3t (by decide) ⟨_,rfl,rfl,k1⟩
   . exact B0z rfl ⟨_,rfl,rfl,_,rfl,U5 (nW (y:= .halfEven) (z:= .halfUp) (by decide)) ⟨_,rfl,rfl,_,rfl,A1f rfl ⟨_,rfl,_,_,rfl,rfl,(by decide:(0:Int)<2),rfl,k1⟩⟩⟩
   . exact B3t (by decide) ⟨_,rfl,rfl,k1⟩
theorem A6h{t b:Int}(ht:Sz t)(hb:Sz b)(n:Int):A0m t b (n-(n+Z4 t b)):=by
 obtain⟨tn',et,t1,_⟩:=ht.nat
 obtain⟨bn,eb,b1,_⟩:=hb.nat
 obtain⟨L,l1,l2⟩:=A4u tn' t1
 obtain⟨M,m1,m2⟩:=A4u bn b1
 subst et eb
 rw[show n-(n+Z4 (tn':Int) (bn:Int))=0-Z4 (tn':Int) (bn:Int) by omega]
 unfold Z4
 rw[A2y l2 l1,A2y m2 m1,show(L:Int)+1-((M:Int)+1)=(L:Int)-M by omega]
 split
 . rename_i h
   have:=B3w l1 l2 m1 m2 (by rw[show(M:Int)-L= -((L:Int)-M) by omega,Int.neg_neg];exact h)
   rw[show(0:Int)- ((L:Int)-M-1)=(M:Int)-L+1 by omega]
   exact this
 rename_i h
 have:=B5h l1 l2 m1 m2 (by rw[show(M:Int)-L= -((L:Int)-M) by omega,Int.neg_neg];omega)
 rw[show(0:Int)- ((L:Int)-M)=(M:Int)-L by omega]
 exact this
theorem A8t{t:Int}(ht:SzQ t)(n:Int):A3w t (n-2*A0f t n):=by
 obtain⟨m,rfl,h1,_⟩:=C3y ht
 obtain⟨L,l1,l2⟩:=A4u m h1
 refine B5z l1 l2 ?_
 unfold A0f
 rw[A2y l2 l1]
 congr 1
 omega
theorem G7t{t:Int}(h:SzQ t):Sz t:=⟨h.1,Int.lt_trans h.2 (by decide+kernel)⟩
theorem J2z{t s:Int}{r:Nat}(h1:(r*r:Nat)<=(t*A2 s/A2 (-s)).toNat)(h2:(t*A2 s/A2 (-s)).toNat<(r+1)*(r+1))(ht:0<t):A1p t s (r:Int):=by
 have bp:=C8 (-s)
 have tp:0<=t*A2 s:=Int.le_of_lt (Int.mul_pos ht (C8 _))
 have d0:0<=t*A2 s/A2 (-s):=Int.ediv_nonneg tp (Int.le_of_lt bp)
 have a:((r*r:Nat):Int)<=t*A2 s/A2 (-s):=by omega
 have b:t*A2 s/A2 (-s)<(((r+1)*(r+1):Nat):Int):=by omega
 refine⟨Int.natCast_nonneg _,?_,?_⟩
 . have:=(Int.le_ediv_iff_mul_le bp).mp a
   rw[Int.natCast_mul] at this
   exact this
 have:=(Int.ediv_lt_iff_lt_mul bp).mp b
 rw[Int.natCast_mul,Int.natCast_add] at this
 exact this
theorem G6w{T M lf:Int}{wh B:Int}(e:lf=T-wh*wh*B)(h:lf≠0):2+(if decide (4*T-M>0)=true then(1:Int) else 0)- (if decide (4*T-M<0)=true then(1:Int) else 0)=(if wh*wh*B=T then 0 else 1+(if decide (M<=4*T)=true then 1 else 0)+(if decide (M<4*T)=true then 1 else 0)):=by
 rw[if_neg (show¬wh*wh*B=T by omega)]
 rcases(by omega:M<4*T\/M=4*T\/4*T<M) with h2|h2|h2
 . rw[decide_eq_true (show 4*T-M>0 by omega),decide_eq_false (show¬4*T-M<0 by omega),decide_eq_true (show M<=4*T by omega),decide_eq_true (show M<4*T by omega)];rfl
 . rw[decide_eq_false (show¬4*T-M>0 by omega),decide_eq_false (show¬4*T-M<0 by omega),decide_eq_true (show M<=4*T by omega),decide_eq_false (show¬M<4*T by omega)];rfl
 rw[decide_eq_false (show¬4*T-M>0 by omega),decide_eq_true (show 4*T-M<0 by omega),decide_eq_false (show¬M<=4*T by omega),decide_eq_false (show¬M<4*T by omega)];rfl
theorem J2n{t s wh:Int}:0<=A8j t s wh/\A8j t s wh<=3:=by
 unfold A8j
 split
 . decide
 generalize decide ((2*wh+1)*(2*wh+1)*A2 (-s)<=4*(t*A2 s))=x
 generalize decide ((2*wh+1)*(2*wh+1)*A2 (-s)<4*(t*A2 s))=y
 cases x<;>cases y<;>decide
theorem G3p{t s s0:Int}(ht:0<t)(h:A3w t s0)(e:s+2<=s0):t*A2 s<A2 (-s):=by
 have c:=Z6 (show s<=s0 by omega)
 have g:100<=A2 (s0-s):=by
   have:A2 2<=A2 (s0-s):=V3 (by omega)
   have e:A2 2=100:=rfl
   omega
 have p0:=C8 (-s0)
 have q:t*A2 s0*A2 (-s)=t*A2 s*A2 (-s0)*A2 (s0-s):=by
   calc t*A2 s0*A2 (-s)=t*(A2 s0*A2 (-s)):=by ac_rfl
     _=t*(A2 s*A2 (-s0)*A2 (s0-s)):=by rw[c]
     _=t*A2 s*A2 (-s0)*A2 (s0-s):=by ac_rfl
 have a1:t*A2 s0*A2 (-s)<100*A2 (-s0)*A2 (-s):=Int.mul_lt_mul_of_pos_right h.2 (C8 _)
 have a2:t*A2 s*A2 (-s0)*100<=t*A2 s*A2 (-s0)*A2 (s0-s):=Int.mul_le_mul_of_nonneg_left g (Int.le_of_lt (Int.mul_pos (Int.mul_pos ht (C8 _)) p0))
 have e2:100*A2 (-s0)*A2 (-s)=A2 (-s)*A2 (-s0)*100:=by ac_rfl
 have a3:t*A2 s*A2 (-s0)*100<A2 (-s)*A2 (-s0)*100:=by rw[<-e2];rw[q] at a1;omega
 exact Int.lt_of_mul_lt_mul_right (Int.lt_of_mul_lt_mul_right a3 (by decide)) (Int.le_of_lt p0)
theorem J0s{t s:Int}(ht:1<=t)(h:t*A2 s<A2 (-s)):whQ t s=0:=C1k ht ⟨Int.le_refl _,by rw[Int.zero_mul,Int.zero_mul];exact Int.le_of_lt (Int.mul_pos (by omega) (C8 _)),by rw[show((0:Int)+1)*(0+1)*A2 (-s)=A2 (-s) by omega];exact h⟩
theorem J3t{t s:Int}(ht:1<=t)(h:A3w t s):whQ t s≠0:=fun z=>by
 have r:=A2n (s:=s) ht
 rw[z] at r
 have:=r.2.2
 rw[show((0:Int)+1)*(0+1)*A2 (-s)=A2 (-s) by omega] at this
 have:=h.1
 omega
noncomputable def D3m:Sp:=fun vs H Q _=>∃q lv p,vs=[.ref q,.int p]/\H q=some (.tup (Lv.vs lv))/\lv.Ok/\lv.In p/\∀r H',B5 H H' ->H' r=some (.tup [.int (lv.wh p),.int (lv.pt p)]) ->Q (.ref r) H'
theorem scLAt:B7 ["_law_value","_law_power","_law_top","_law_bottom","_law_ten_here","_law_is_root","_law_many","_law_found","_law_left","_law_twice"] Q28 (A7 D0a):=scK
theorem G6g(D:Def K mg "_law_at" Q28 D0a f fd)(dA:Def K mg "_law_ten" ["_law_power"] A8p f1 fd1)(dB:sI P w K mg base 1 f1 fd1 ["_law_power"] A7e)(dC:Def K mg "_law_isqrt" ["_law_number"] B1x f2 fd2)(dD:sI P w K mg base 1 f2 fd2 ["_law_number"] B9n)(O:Own mg):sI P w K mg base 2 f fd Q28 D3m:=by
 refine D.F.okE scLAt (fun vs H Q E h=>?_) (fun X cdv A outer s H vs Q E hX hr hx h=>?_)
 . obtain⟨q,lv,p,rfl,_⟩:=h
   rfl
 subst hX
 obtain⟨vq,lv,p,rfl,ev,ho,hi,k⟩:=h
 refine⟨_,(A4 (B3 (A7j (pv 0) (A7b rfl (U8 (U1 (i:=2) scLAt.nd rfl (Or.inl rfl)) (U8 (U1 (i:=3) scLAt.nd rfl (Or.inl rfl)) (U8 (U1 (i:=4) scLAt.nd rfl (Or.inl rfl)) (U8 (U1 (i:=5) scLAt.nd rfl (Or.inl rfl)) A2x))))))) (A4 (B3 (D0 (i:=6) scLAt.nd rfl (Or.inl rfl) (A9 U2 (pv 4) (A9 G0 (pv 1) (V4 (V5 (pv 5)) A1 A1))))) (A4 (B3 (D0 (i:=2) scLAt.nd rfl (Or.inl rfl) (A9 G0 (pv 2) (C4 dA dB hr hx (A0 (G7 (A0b rfl) (by rfl) O.max_ boot_max (A0 A1 (A0 (pv 6) A3))) A3))))) (A4 (B3 (D0 (i:=3) scLAt.nd rfl (Or.inl rfl) (A9 G0 (pv 3) (C4 dA dB hr hx (A0 (G7 (A0b rfl) (by rfl) O.max_ boot_max (A0 A1 (A0 (A4z A2c (pv 6)) A3))) A3))))) (A4 (B3 (D9 (A3c (V5 (pv 5))) (A4 (B3 (A7j (G7 A8u (by rfl) O.divmod_ PyProof.Rows.boot_divmod (A0 (pv 2) (A0 (pv 3) A3))) (A7b rfl (U8 (U1 (i:=7) scLAt.nd rfl (Or.inl rfl)) (U8 (U1 (i:=8) scLAt.nd rfl (Or.inl rfl)) A2x))))) (A5 (B3 (D0 (i:=9) scLAt.nd rfl (Or.inl rfl) (A9 U2 (A9 G0 A1 (pv 8)) (pv 3)))))) (A4 (B3 (D0 (i:=7) scLAt.nd rfl (Or.inl rfl) (C4 dC dD hr hx (A0 (A9 D6 (pv 2) (pv 3)) A3)))) (A4 (B3 (D0 (i:=8) scLAt.nd rfl (Or.inl rfl) (A9 U2 (pv 2) (A9 G0 (A9 G0 (pv 7) (pv 7)) (pv 3))))) (A5 (B3 (D0 (i:=9) scLAt.nd rfl (Or.inl rfl) (A9 U2 (A9 G0 A1 (pv 2)) (A9 G0 (A9 G0 (A9 G9 (A9 G0 A1 (pv 7)) A1) (A9 G9 (A9 G0 A1 (pv 7)) A1)) (pv 3)))))))))) (A4 (B3 (D9 (B9 D4 (pv 8) A1 (B8 _)) (A5 (B0 (U4 (A0 (pv 7) (A0 A1 A3))))) C6)) (A5 (B0 (U4 (A0 (pv 7) (A0 (A9 U2 (A9 G9 A1 (Y7 A0v (by rfl) O.int_ boot_int (A0 (G3 A5a (pv 9) A1 (B8 _)) A3))) (Y7 A0v (by rfl) O.int_ boot_int (A0 (G3 A6u (pv 9) A1 (B8 _)) A3))) A3))))))))))),?_⟩
 cases lv with
 | rat t b n=>
   obtain⟨ht,hb⟩:=ho
   obtain⟨n0,n1⟩:=hi
   have k:∀r H',B5 H H' ->H' r=some (.tup [.int (whI t b (n-p)),.int (ptI t b (n-p))]) ->Q (.ref r) H':=k
   have z2:2<=sizeLine:=C7 (by decide)
   have mC:∀z n:Int, -(2^64)<n ->n<2^64 ->IntMulOk z n:=fun z n a b=>A2w.ok (.inr ⟨a,b⟩)
   have mC':∀z n:Int, -(2^64)<n ->n<2^64 ->IntMulOk n z:=fun z n a b=>A2w.ok (.inl ⟨a,b⟩)
   refine⟨fun σ' H'=>H'=H/\σ'=[sr vq,si p,si t,si b,si n,some (.bl false),none,none,none,none],⟨_,rfl,vq,_,rfl,SqT.of ev,rfl,_,_,rfl,_,_,rfl,_,_,rfl,_,_,rfl,rfl,rfl,rfl⟩,?_⟩
   rintro σ' H1 ⟨rfl,rfl⟩
   let I_:L2.St ->L2.Hp ->Prop:=fun σ' H'=>H'=H1/\σ'=[sr vq,si p,si t,si b,si n,some (.bl false),si (n-p),none,none,none]
   refine⟨I_,?_,?_⟩
   . refine⟨_,rfl,_,rfl,_,rfl,_,rfl,U6 ⟨_,_,rfl,rfl,mC _ _ (by decide) (by decide),_,_,rfl,rfl,rfl,?_⟩⟩
     rw[Int.mul_one]
     rfl
   rintro σ' H2 ⟨rfl,rfl⟩
   clear I_
   generalize n-p=s at*
   have b1:0<b:=by have:=hb.1;omega
   have lp:0<b*A2 (-s):=Int.mul_pos b1 (C8 _)
   let I_:L2.St ->L2.Hp ->Prop:=fun σ' H'=>H'=H2/\σ'=[sr vq,si p,si (t*A2 s),si b,si n,some (.bl false),si s,none,none,none]
   refine⟨I_,?_,?_⟩
   . refine⟨_,rfl,_,rfl,_,_,rfl,_,rfl,?_,?_,_,_,rfl,rfl,?_,rfl,?_⟩
     . split<;>omega
     . split<;>omega
     . rw[A5x];exact A4g ht (by omega)
     . rw[A5x];rfl
   rintro σ' H3 ⟨rfl,rfl⟩
   clear I_
   let I_:L2.St ->L2.Hp ->Prop:=fun σ' H'=>H'=H3/\σ'=[sr vq,si p,si (t*A2 s),si (b*A2 (-s)),si n,some (.bl false),si s,none,none,none]
   refine⟨I_,?_,?_⟩
   . refine⟨_,rfl,_,rfl,_,rfl,_,_,rfl,_,rfl,?_,?_,_,_,rfl,rfl,?_,rfl,?_⟩
     . split<;>omega
     . split<;>omega
     . rw[A5x];exact A4g hb (by omega)
     . rw[A5x];rfl
   rintro σ' H4 ⟨rfl,rfl⟩
   clear I_
   have ll:=C1q hb (s:= -s) (by omega)
   have hm:t*A2 s % (b*A2 (-s))=t*A2 s-whI t b s*(b*A2 (-s)):=by
     unfold whI
     rw[Int.emod_def,Int.mul_comm (b*A2 (-s))]
   have lf0:=(C5q (t:=t) (s:=s) b1).1
   let I_:L2.St ->L2.Hp ->Prop:=fun σ' H'=>B5 H4 H'/\σ'=[sr vq,si p,si (t*A2 s),si (b*A2 (-s)),si n,some (.bl false),si s,si (whI t b s),si (t*A2 s-whI t b s*(b*A2 (-s))),si (2*(t*A2 s-whI t b s*(b*A2 (-s)))-b*A2 (-s))]
   refine⟨I_,?_,?_⟩
   . refine⟨_,rfl,_,rfl,Y3 ?_⟩
     let I_:L2.St ->L2.Hp ->Prop:=fun σ' H'=>B5 H4 H'/\σ'=[sr vq,si p,si (t*A2 s),si (b*A2 (-s)),si n,some (.bl false),si s,si (whI t b s),si (t*A2 s-whI t b s*(b*A2 (-s))),none]
     refine⟨I_,?_,?_⟩
     . refine⟨_,rfl,_,rfl,_,_,rfl,⟨lp,ll⟩,fun d nd=>?_⟩
       rw[hm]
       exact⟨d,_,rfl,SqT.of A6,rfl,_,_,rfl,_,_,rfl,rfl,B5.upd nd,rfl⟩
     rintro σ' H5 ⟨s5,rfl⟩
     clear I_
     refine⟨_,?_,fun _ _ h=>h⟩
     exact⟨_,rfl,_,_,rfl,rfl,mC' _ _ (by decide) (by decide),_,rfl,_,_,rfl,rfl,s5,rfl⟩
   rintro σ' H5 ⟨s5,rfl⟩
   clear I_
   unfold ptI at k
   generalize t*A2 s-whI t b s*(b*A2 (-s))=lf at*
   generalize b*A2 (-s)=lo at*
   generalize whI t b s=wh at*
   let I_:L2.St ->L2.Hp ->Prop:=fun σ' H'=>H'=H5/\lf≠0/\σ'=[sr vq,si p,si (t*A2 s),si lo,si n,some (.bl false),si s,si wh,si lf,si (2*lf-lo)]
   refine⟨I_,?_,?_⟩
   . refine⟨_,rfl,rfl,_,rfl,G8 (fun h=>?_) (fun h=>⟨rfl,fun z=>h (congrArg V.int z),rfl⟩)⟩
     have h:lf=0:=V.int.inj h
     rw[G6h h lp] at k
     exact⟨_,rfl,z2,fun r nr=>k r _ (s5.trans (B5.upd nr)) A6⟩
   refine L2.hideG fun Z_ z_=>?_
   rintro σ' H6 ⟨rfl,h,rfl⟩
   subst z_
   clear I_
   rw[<-part_of lp (by omega)] at k
   exact⟨_,rfl,_,rfl,_,_,rfl,rfl,.inr ⟨_,rfl,_,_,rfl,rfl,_,rfl,_,_,rfl,rfl,.inr ⟨_,rfl,_,_,rfl,rfl,z2,fun r nr=>k r _ (s5.trans (B5.upd nr)) A6⟩⟩⟩
 | roo t n=>
   obtain⟨ht,m0,m1⟩:=ho
   obtain⟨n0,n1⟩:=hi
   have k:∀r H',B5 H H' ->H' r=some (.tup [.int (whQ t (n-2*p)),.int (A8j t (n-2*p) (whQ t (n-2*p)))]) ->Q (.ref r) H':=k
   have z2:2<=sizeLine:=C7 (by decide)
   have mC:∀z n:Int, -(2^64)<n ->n<2^64 ->IntMulOk z n:=fun z n a b=>A2w.ok (.inr ⟨a,b⟩)
   have mC':∀z n:Int, -(2^64)<n ->n<2^64 ->IntMulOk n z:=fun z n a b=>A2w.ok (.inl ⟨a,b⟩)
   refine⟨fun σ' H'=>H'=H/\σ'=[sr vq,si p,si t,si 1,si n,some (.bl true),none,none,none,none],⟨_,rfl,vq,_,rfl,SqT.of ev,rfl,_,_,rfl,_,_,rfl,_,_,rfl,_,_,rfl,rfl,rfl,rfl⟩,?_⟩
   rintro σ' H1 ⟨rfl,rfl⟩
   let I_:L2.St ->L2.Hp ->Prop:=fun σ' H'=>H'=H1/\σ'=[sr vq,si p,si t,si 1,si n,some (.bl true),si (n-2*p),none,none,none]
   refine⟨I_,?_,?_⟩
   . refine⟨_,rfl,_,rfl,_,rfl,_,rfl,Y3 ⟨_,_,rfl,rfl,mC _ _ (by decide) (by decide),_,_,rfl,rfl,rfl,?_⟩⟩
     rw[Int.mul_comm 2 p]
     rfl
   rintro σ' H2 ⟨rfl,rfl⟩
   clear I_
   generalize n-2*p=s at*
   have t1:=ht.1
   have bp:=C8 (-s)
   have tp:0<t*A2 s:=Int.mul_pos (by omega) (C8 _)
   have sz:=G7t ht
   let I_:L2.St ->L2.Hp ->Prop:=fun σ' H'=>H'=H2/\σ'=[sr vq,si p,si (t*A2 s),si 1,si n,some (.bl true),si s,none,none,none]
   refine⟨I_,?_,?_⟩
   . refine⟨_,rfl,_,rfl,_,_,rfl,_,rfl,?_,?_,_,_,rfl,rfl,?_,rfl,?_⟩
     . split<;>omega
     . split<;>omega
     . rw[A5x];exact A4g sz (by omega)
     . rw[A5x];rfl
   rintro σ' H3 ⟨rfl,rfl⟩
   clear I_
   let I_:L2.St ->L2.Hp ->Prop:=fun σ' H'=>H'=H3/\σ'=[sr vq,si p,si (t*A2 s),si (A2 (-s)),si n,some (.bl true),si s,none,none,none]
   refine⟨I_,?_,?_⟩
   . refine⟨_,rfl,_,rfl,_,rfl,_,_,rfl,_,rfl,?_,?_,_,_,rfl,rfl,?_,rfl,?_⟩
     . split<;>omega
     . split<;>omega
     . rw[A5x];exact A4g A4h (by omega)
     . show [_,_,_,si (1*_),_,_,_,_,_,_]=_
       rw[A5x,Int.one_mul]
   rintro σ' H4 ⟨rfl,rfl⟩
   clear I_
   have ll:=C4n (e:= -s) (by omega)
   have d0:0<=t*A2 s/A2 (-s):=Int.ediv_nonneg (Int.le_of_lt tp) (Int.le_of_lt bp)
   have dl:(t*A2 s/A2 (-s)).toNat<2^1000:=by
     have a:t*A2 s/A2 (-s)<=t*A2 s:=Int.ediv_le_self _ (Int.le_of_lt tp)
     have b:=B3v ht (s:=s) (by omega)
     have c:(2:Nat)^903<=2^1000:=Nat.pow_le_pow_right (by decide) (by decide)
     omega
   have wq:=A2n (s:=s) t1
   have mu:=C6a ht n0 n1 wq
   generalize hw:whQ t s=wh at*
   let I_:L2.St ->L2.Hp ->Prop:=fun σ' H'=>H'=H4/\σ'=[sr vq,si p,si (t*A2 s),si (A2 (-s)),si n,some (.bl true),si s,si wh,si (t*A2 s-wh*wh*A2 (-s)),si (4*(t*A2 s)- (2*wh+1)*(2*wh+1)*A2 (-s))]
   refine⟨I_,?_,?_⟩
   . refine⟨_,rfl,_,rfl,U6 ?_⟩
     refine⟨fun σ' H'=>H'=H4/\σ'=[sr vq,si p,si (t*A2 s),si (A2 (-s)),si n,some (.bl true),si s,si wh,none,none],?_,?_⟩
     . refine⟨_,rfl,_,rfl,_,_,rfl,rfl,ll,(t*A2 s/A2 (-s)).toNat,(by rw[Int.toNat_of_nonneg d0];rfl),dl,fun r h1 h2=>?_⟩
       have:=C1k t1 (J2z h1 h2 (by omega))
       rw[hw] at this
       rw[this]
       exact⟨rfl,rfl⟩
     rintro σ' H5 ⟨rfl,rfl⟩
     refine⟨fun σ' H'=>H'=H5/\σ'=[sr vq,si p,si (t*A2 s),si (A2 (-s)),si n,some (.bl true),si s,si wh,si (t*A2 s-wh*wh*A2 (-s)),none],⟨_,rfl,_,rfl,_,rfl,_,_,rfl,rfl,mu.o2,_,rfl,_,_,rfl,rfl,mu.o3,_,_,rfl,rfl,rfl,rfl⟩,?_⟩
     rintro σ' H6 ⟨rfl,rfl⟩
     refine⟨_,?_,fun _ _ h=>h⟩
     exact⟨_,rfl,_,_,rfl,rfl,mC' _ _ (by decide) (by decide),_,rfl,_,_,rfl,rfl,mC' _ _ (by decide) (by decide),_,_,rfl,rfl,_,rfl,_,_,rfl,rfl,mC' _ _ (by decide) (by decide),_,_,rfl,rfl,_,_,rfl,rfl,mu.o6,_,rfl,_,_,rfl,rfl,mu.o7,_,_,rfl,rfl,rfl,rfl⟩
   rintro σ' H5 ⟨rfl,rfl⟩
   clear I_
   generalize hlf:t*A2 s-wh*wh*A2 (-s)=lf
   let I_:L2.St ->L2.Hp ->Prop:=fun σ' H'=>H'=H5/\lf≠0/\σ'=[sr vq,si p,si (t*A2 s),si (A2 (-s)),si n,some (.bl true),si s,si wh,si lf,si (4*(t*A2 s)- (2*wh+1)*(2*wh+1)*A2 (-s))]
   refine⟨I_,?_,?_⟩
   . refine⟨_,rfl,rfl,_,rfl,G8 (fun h=>?_) (fun h=>⟨rfl,fun z=>h (congrArg V.int z),rfl⟩)⟩
     have h:lf=0:=V.int.inj h
     unfold A8j at k
     rw[if_pos (by omega)] at k
     exact⟨_,rfl,z2,fun r nr=>k r _ (B5.upd nr) A6⟩
   refine L2.hideG fun Z_ z_=>?_
   rintro σ' H6 ⟨rfl,h,rfl⟩
   subst z_
   clear I_
   unfold A8j at k
   rw[<-G6w (M:=(2*wh+1)*(2*wh+1)*A2 (-s)) hlf.symm h] at k
   exact⟨_,rfl,_,rfl,_,_,rfl,rfl,.inr ⟨_,rfl,_,_,rfl,rfl,_,rfl,_,_,rfl,rfl,.inr ⟨_,rfl,_,_,rfl,rfl,z2,fun r nr=>k r _ (B5.upd nr) A6⟩⟩⟩
noncomputable def C3w:Sp:=fun vs H Q _=>∃q lv,vs=[.ref q]/\H q=some (.tup (Lv.vs lv))/\lv.Ok/\∀H',B5 H H' ->Q (.int lv.L) H'
theorem scLLead:B7 ["_law_value","_law_top","_law_bottom","_law_ten_here","_law_is_root","_law_first"] ["_law_value"] (A7 B8h):=scK
theorem D0f(D:Def K mg "_law_lead" ["_law_value"] B8h f fd)(dA:Def K mg "_law_count" Q18 A6b f1 fd1)(dB:sI P w K mg base 1 f1 fd1 Q18 A8s)(dC:Def K mg "_law_at" Q28 D0a f2 fd2)(dD:sI P w K mg base 2 f2 fd2 Q28 D3m):sI P w K mg base 3 f fd ["_law_value"] C3w:=by
 refine D.F.okE scLLead (fun vs H Q E h=>?_) (fun X cdv A outer s H vs Q E hX hr hx h=>?_)
 . obtain⟨q,lv,rfl,_⟩:=h
   rfl
 subst hX
 obtain⟨vq,lv,rfl,ev,ho,k⟩:=h
 refine⟨_,(A4 (B3 (A7j (pv 0) (A7b rfl (U8 (U1 (i:=1) scLLead.nd rfl (Or.inl rfl)) (U8 (U1 (i:=2) scLLead.nd rfl (Or.inl rfl)) (U8 (U1 (i:=3) scLLead.nd rfl (Or.inl rfl)) (U8 (U1 (i:=4) scLLead.nd rfl (Or.inl rfl)) A2x))))))) (A4 (B3 (D0 (i:=5) scLLead.nd rfl (Or.inl rfl) (A9 G9 (A9 U2 (C4 dA dB hr hx (A0 (pv 1) A3)) (C4 dA dB hr hx (A0 (pv 2) A3))) (pv 3)))) (A4 (B3 (D9 (V5 (pv 4)) (A5 (B3 (D0 (i:=5) scLLead.nd rfl (Or.inl rfl) (A9 G9 (A9 D6 (pv 5) A1) A1)))) C6)) (A4 (B3 (D0 (i:=5) scLLead.nd rfl (Or.inl rfl) (A9 G9 (pv 5) A1))) (A4 (B3 (A1y PassesOwn.leaving (B9 D4 (D7 D8 (C4 dC dD hr hx (A0 (pv 0) (A0 (pv 5) A3))) A1 (fun _ _=>rfl)) A1 (B8 _)) (A5 (B3 (D0 (i:=5) scLLead.nd rfl (Or.inl rfl) (A9 U2 (pv 5) A1)))))) (A5 (B0 (pv 5)))))))),?_⟩
 cases lv with
 | rat t b n=>
   obtain⟨ht,hb⟩:=ho
   have ld:=A6h ht hb n
   have k:∀H',B5 H H' ->Q (.int (n+Z4 t b)) H':=k
   generalize hL:n+Z4 t b=L at*
   have t1:=ht.1;have b1:=hb.1
   have ls:=A4t ht hb ld
   have lt:=C9w ht hb ld
   obtain⟨_,_,ft⟩:=A3y ht
   obtain⟨_,_,fb⟩:=A3y hb
   have ftl:V0 t<=1001:=by
     apply Classical.byContradiction
     intro z
     have a:A2 1000<=A2 (V0 t-1):=V3 (by omega)
     have:=(A3y ht).1;have:=ht.2
     omega
   have fbl:V0 b<=1001:=by
     apply Classical.byContradiction
     intro z
     have a:A2 1000<=A2 (V0 b-1):=V3 (by omega)
     have:=(A3y hb).1;have:=hb.2
     omega
   refine⟨fun σ' H'=>H'=H/\σ'=[sr vq,si t,si b,si n,some (.bl false),none],⟨_,rfl,vq,_,rfl,SqT.of ev,rfl,_,_,rfl,_,_,rfl,_,_,rfl,_,_,rfl,rfl,rfl,rfl⟩,?_⟩
   rintro σ' H1 ⟨rfl,rfl⟩
   refine⟨fun σ' H'=>H'=H1/\σ'=[sr vq,si t,si b,si n,some (.bl false),si (V0 t-V0 b+n)],⟨_,rfl,t,rfl,by omega,_,rfl,b,rfl,by omega,_,_,rfl,rfl,_,rfl,_,_,rfl,rfl,rfl,rfl⟩,?_⟩
   rintro σ' H2 ⟨rfl,rfl⟩
   refine⟨fun σ' H'=>H'=H2/\σ'=[sr vq,si t,si b,si n,some (.bl false),si (V0 t-V0 b+n)],⟨_,rfl,_,rfl,U6 ⟨rfl,rfl⟩⟩,?_⟩
   rintro σ' H3 ⟨rfl,rfl⟩
   refine⟨fun σ' H'=>H'=H3/\σ'=[sr vq,si t,si b,si n,some (.bl false),si (V0 t-V0 b+n+1)],⟨_,rfl,_,_,rfl,rfl,rfl,rfl⟩,?_⟩
   rintro σ' H4 ⟨rfl,rfl⟩
   let I_:L2.St ->L2.Hp ->Prop:=fun σ' H'=>B5 H4 H'/\σ'=[sr vq,si t,si b,si n,some (.bl false),si L]
   refine⟨I_,?_,?_⟩
   . refine A1b (fun σ H5=>B5 H4 H5/\∃g:Int,L<=g/\g<=V0 t-V0 b+n+1/\σ=[sr vq,si t,si b,si n,some (.bl false),si g]) (fun σ _=>match σ with| [_,_,_,_,_,some (.int g)]=>(g-L).toNat|_=>0) ⟨B5.refl _,_,by omega,Int.le_refl _,rfl⟩ ?_ ?_
     . rintro σ H5 ⟨s5,g,g0,g1,rfl⟩
       have ev5:=s5 _ _ ev
       refine⟨_,rfl,_,rfl,vq,.rat t b n,g,rfl,ev5,⟨ht,hb⟩,⟨by omega,by omega⟩,fun r H6 s6 er=>⟨r,_,_,_,rfl,rfl,SqT.of er,C0 (j:=0) rfl,rfl,_,rfl,G8 (fun h=>?_) (fun h=>?_)⟩⟩
       . have h:whI t b (n-g)=0:=V.int.inj h
         have:=(C9u (by omega) (by omega) ld).mp h
         refine⟨_,?_,fun _ _ h=>h⟩
         refine⟨_,rfl,_,_,rfl,rfl,⟨s5.trans s6,g-1,by omega,by omega,rfl⟩,?_⟩
         show(g-1-L).toNat<(g-L).toNat
         omega
       . have h:¬whI t b (n-g)=0:=fun z=>h (congrArg V.int z)
         have:¬n-g<n-L:=fun z=>h ((C9u (by omega) (by omega) ld).mpr z)
         obtain rfl:g=L:=by omega
         exact⟨s5.trans s6,rfl⟩
     . rintro σ H5 Q1 Q2 hQ ⟨v1,e1,v2,e2,q,lv',p',e3,c1,c2,c3,c6⟩
       refine⟨v1,e1,v2,e2,q,lv',p',e3,c1,c2,c3,fun r H6 s6 er=>?_⟩
       obtain⟨a1,a2,a3,a4,a5,a6,a7,a8,a9,bb,eb,z⟩:=c6 r H6 s6 er
       exact⟨a1,a2,a3,a4,a5,a6,a7,a8,a9,bb,eb,hQ _ _ z⟩
   rintro σ' H5 ⟨s5,rfl⟩
   clear I_
   exact⟨_,rfl,k H5 s5⟩
 | roo t n=>
   obtain⟨ht,m0,m1⟩:=ho
   have t1:=ht.1
   have ld:=A8t ht n
   have lb:=B0r ht ld
   have k:∀H',B5 H H' ->Q (.int (A0f t n)) H':=k
   have f1:V0 1=1:=by decide+kernel
   have e0:V0 t-V0 1+n=V0 t-1+n:=by omega
   have eL:(V0 t-1+n)/2=A0f t n:=rfl
   generalize A0f t n=L at*
   have d2:(0:Int)<2/\(2:Int).natAbs.log2<9000:=⟨by decide,by decide+kernel⟩
   refine⟨fun σ' H'=>H'=H/\σ'=[sr vq,si t,si 1,si n,some (.bl true),none],⟨_,rfl,vq,_,rfl,SqT.of ev,rfl,_,_,rfl,_,_,rfl,_,_,rfl,_,_,rfl,rfl,rfl,rfl⟩,?_⟩
   rintro σ' H1 ⟨rfl,rfl⟩
   refine⟨fun σ' H'=>H'=H1/\σ'=[sr vq,si t,si 1,si n,some (.bl true),si (V0 t-1+n)],⟨_,rfl,t,rfl,by omega,_,rfl,1,rfl,by decide,_,_,rfl,rfl,_,rfl,_,_,rfl,rfl,rfl,?_⟩,?_⟩
   . rw[<-e0]
     rfl
   rintro σ' H2 ⟨rfl,rfl⟩
   let I_:L2.St ->L2.Hp ->Prop:=fun σ' H'=>H'=H2/\σ'=[sr vq,si t,si 1,si n,some (.bl true),si (L+1)]
   refine⟨I_,?_,?_⟩
   . refine⟨_,rfl,_,rfl,Y3 ⟨_,?_,fun _ _ h=>h⟩⟩
     refine⟨_,rfl,_,_,rfl,rfl,d2,_,_,rfl,rfl,rfl,?_⟩
     rw[<-eL]
     rfl
   rintro σ' H3 ⟨rfl,rfl⟩
   clear I_
   refine⟨fun σ' H'=>H'=H3/\σ'=[sr vq,si t,si 1,si n,some (.bl true),si (L+1+1)],⟨_,rfl,_,_,rfl,rfl,rfl,rfl⟩,?_⟩
   rintro σ' H4 ⟨rfl,rfl⟩
   let I_:L2.St ->L2.Hp ->Prop:=fun σ' H'=>B5 H4 H'/\σ'=[sr vq,si t,si 1,si n,some (.bl true),si L]
   refine⟨I_,?_,?_⟩
   . refine A1b (fun σ H5=>B5 H4 H5/\∃g:Int,L<=g/\g<=L+2/\σ=[sr vq,si t,si 1,si n,some (.bl true),si g]) (fun σ _=>match σ with| [_,_,_,_,_,some (.int g)]=>(g-L).toNat|_=>0) ⟨B5.refl _,_,by omega,by omega,rfl⟩ ?_ ?_
     . rintro σ H5 ⟨s5,g,g0,g1,rfl⟩
       have ev5:=s5 _ _ ev
       refine⟨_,rfl,_,rfl,vq,.roo t n,g,rfl,ev5,⟨ht,m0,m1⟩,⟨by omega,by omega⟩,fun r H6 s6 er=>⟨r,_,_,_,rfl,rfl,SqT.of er,C0 (j:=0) rfl,rfl,_,rfl,G8 (fun h=>?_) (fun h=>?_)⟩⟩
       . have h:whQ t (n-2*g)=0:=V.int.inj h
         have:g≠L:=fun z=>J3t t1 ld (z▸h)
         refine⟨_,?_,fun _ _ h=>h⟩
         refine⟨_,rfl,_,_,rfl,rfl,⟨s5.trans s6,g-1,by omega,by omega,rfl⟩,?_⟩
         show(g-1-L).toNat<(g-L).toNat
         omega
       . have h:¬whQ t (n-2*g)=0:=fun z=>h (congrArg V.int z)
         have:¬L<g:=fun z=>h (J0s t1 (G3p (by omega) ld (by omega)))
         obtain rfl:g=L:=by omega
         exact⟨s5.trans s6,rfl⟩
     . rintro σ H5 Q1 Q2 hQ ⟨v1,e1,v2,e2,q,lv',p',e3,c1,c2,c3,c6⟩
       refine⟨v1,e1,v2,e2,q,lv',p',e3,c1,c2,c3,fun r H6 s6 er=>?_⟩
       obtain⟨a1,a2,a3,a4,a5,a6,a7,a8,a9,bb,eb,z⟩:=c6 r H6 s6 er
       exact⟨a1,a2,a3,a4,a5,a6,a7,a8,a9,bb,eb,hQ _ _ z⟩
   rintro σ' H5 ⟨s5,rfl⟩
   clear I_
   exact⟨_,rfl,k H5 s5⟩
noncomputable abbrev A2k:Stmt:=(top 92)
theorem D0s(x:Str)(b:Bool):(List.replicate (if b=true then(1:Int) else 0).toNat [V.str x]).flatten=(C9f x b).map V.str:=by cases b<;>rfl
theorem G4z{pt l L:Int}{c:Bool}(h:L<l):C9f "sunk" (!decide (pt=0))++(["faint"]:List Str)++Y1 pt c=V1 (Y1 pt c++A1a l L pt):=by
 unfold Y1 A1a
 rw[if_neg (by omega:¬L>=l)]
 by_cases z:pt=0
 . rw[if_pos z,if_pos z,decide_eq_true z]
   cases c<;>decide+kernel
 rw[if_neg z,if_neg z,decide_eq_false z]
 decide+kernel
theorem G3s{pt l L:Int}{c:Bool}(h:¬L<l):Y1 pt c=V1 (Y1 pt c++A1a l L pt):=by
 unfold Y1 A1a
 rw[if_pos (by omega:L>=l)]
 by_cases z:pt=0
 . rw[if_pos z]
   cases c<;>decide+kernel
 rw[if_neg z]
 decide+kernel
theorem G7g{pt:Int}{c:Bool}:inV (.str "off") ((Y1 pt c).map V.str)= !decide (pt=0):=by
 unfold Y1
 by_cases z:pt=0
 . rw[if_pos z,decide_eq_true z]
   cases c<;>decide+kernel
 rw[if_neg z,decide_eq_false z]
 decide+kernel
theorem C7h{pt:Int}{c:Bool}:(Y1 pt c).length<=2:=by
 unfold Y1
 split
 . cases c<;>decide
 decide
theorem G3d{a b:Int}:0<=Z3 a b/\Z3 a b<=3:=by
 unfold Z3
 generalize decide (0<a)=x
 generalize decide (b<=2*a)=y
 generalize decide (b<2*a)=z
 cases x<;>cases y<;>cases z<;>decide
theorem J6a(lv:Lv)(q:Int):0<=lv.pt q/\lv.pt q<=3:=by
 cases lv with
 |rat t b n=>exact G3d
 |roo t n=>exact J2n
noncomputable def setL (v:Cv) (s:Int) (lv:Lv) (i:Int):Nm×List Str:=A3b v s (lv.wh (v.fin lv.L)) (lv.pt (v.fin lv.L)) lv.L (v.fin lv.L) i
noncomputable def B9x:Sp:=fun vs H Q _=>∃r y l m s,vs=[.int r,.str (Wy.name y),.int m,.int s]/\1<=r/\r<=24/\0<=s/\s<=1/\∀q H',B5 H H' ->H' q=some (.tup (B0b ⟨r,y,l,m⟩ s).vs) ->Q (.ref q) H'
theorem scLBurst:B7 ["_law_room","_law_way","_law_most","_law_sign","_law_low"] Q42 (A7 B1w):=scK
theorem C9c(D:Def K mg "_law_burst" Q42 B1w f fd)(dA:Def K mg "_law_ten" ["_law_power"] A8p f1 fd1)(dB:sI P w K mg base 1 f1 fd1 ["_law_power"] A7e):sI P w K mg base 2 f fd Q42 B9x:=by
 refine D.F.okE scLBurst (fun vs H Q E h=>?_) (fun X cdv A outer s H vs Q E hX hr hx h=>?_)
 . obtain⟨r,y,l,m,sg,rfl,_⟩:=h
   rfl
 subst hX
 obtain⟨r,y,l,m,sg,rfl,r1,r2,s0,s1,k⟩:=h
 refine⟨_,(A4 (B3 (D0 (i:=4) scLBurst.nd rfl (Or.inl rfl) (C0j (G3 A2j (pv 1) (U4 (A0 C5 (A0 C5 A3))) (by rfl)) (C0j (A2s (G3 D4 (pv 1) C5 (B8 _)) (A1d (G3 D4 (pv 3) A1 (B8 _)))) (A1d (A2s (G3 D4 (pv 1) C5 (B8 _)) (A1d (G3 D4 (pv 3) A1 (B8 _))))))))) (A4 (B3 (D9 (V5 (pv 4)) (A5 (B0 (U4 (A0 C5 (A0 (pv 3) (A0 (A9 U2 (C4 dA dB hr hx (A0 (pv 0) A3)) A1) (A0 (A9 G9 (A9 U2 (pv 2) (pv 0)) A1) A3))))))) C6)) (A5 (B0 (U4 (A0 C5 (A0 (pv 3) (A0 A1 (A0 A1 A3))))))))),?_⟩
 have z2:2<=sizeLine:=C7 (by decide)
 have z4:4<=sizeLine:=C7 (by decide)
 let I_:L2.St ->L2.Hp ->Prop:=fun σ' H'=>B5 H H'/\σ'=[si r,sR y.name,si m,si sg,some (.bl (!y.toEnd sg))]
 refine⟨I_,?_,?_⟩
 . refine⟨_,rfl,z2,fun p np=>⟨p,_,rfl,.inr (SqT.of A6),rfl,rfl,_,rfl,?_⟩⟩
   have u:=B5.upd (o:= .tup [.str "down",.str "five up"]) np
   generalize upd H p (.tup [.str "down",.str "five up"])=H1 at u
   show if(inV (.str y.name) [.str "down",.str "five up"])=true then _ else _
   have fin:∀b:Bool,b=(!y.toEnd sg) ->B5 H H1/\ [si r,sR y.name,si m,si sg,some (.bl b)]=[si r,sR y.name,si m,si sg,some (.bl (!y.toEnd sg))]:=fun b e=>⟨u,by rw[e]⟩
   cases y with
   |down=>exact Y3 (fin true rfl)
   |fiveUp=>exact Y3 (fin true rfl)
   |up=>exact U6 ⟨_,rfl,rfl,_,rfl,U5 (nW (y:= .up) (z:= .floor) (by decide)) ⟨_,rfl,U6 ⟨_,rfl,rfl,_,rfl,U5 (nW (y:= .up) (z:= .ceiling) (by decide)) (fin false rfl)⟩⟩⟩
   |halfUp=>exact U6 ⟨_,rfl,rfl,_,rfl,U5 (nW (y:= .halfUp) (z:= .floor) (by decide)) ⟨_,rfl,U6 ⟨_,rfl,rfl,_,rfl,U5 (nW (y:= .halfUp) (z:= .ceiling) (by decide)) (fin false rfl)⟩⟩⟩
   |halfDown=>exact U6 ⟨_,rfl,rfl,_,rfl,U5 (nW (y:= .halfDown) (z:= .floor) (by decide)) ⟨_,rfl,U6 ⟨_,rfl,rfl,_,rfl,U5 (nW (y:= .halfDown) (z:= .ceiling) (by decide)) (fin false rfl)⟩⟩⟩
   |halfEven=>exact U6 ⟨_,rfl,rfl,_,rfl,U5 (nW (y:= .halfEven) (z:= .floor) (by decide)) ⟨_,rfl,U6 ⟨_,rfl,rfl,_,rfl,U5 (nW (y:= .halfEven) (z:= .ceiling) (by decide)) (fin false rfl)⟩⟩⟩
   | floor=>
     rcases(by omega:sg=0\/sg=1) with rfl|rfl
     . exact U6 ⟨_,rfl,rfl,_,rfl,A1f rfl ⟨_,rfl,rfl,_,rfl,A1f rfl (fin true (by decide+kernel))⟩⟩
     . exact U6 ⟨_,rfl,rfl,_,rfl,A1f rfl ⟨_,rfl,rfl,_,rfl,U5 (by decide) ⟨_,rfl,rfl,_,rfl,U5 (nW (y:= .floor) (z:= .ceiling) (by decide)) (fin false (by decide+kernel))⟩⟩⟩
   | ceiling=>
     rcases(by omega:sg=0\/sg=1) with rfl|rfl
     . exact U6 ⟨_,rfl,rfl,_,rfl,U5 (nW (y:= .ceiling) (z:= .floor) (by decide)) ⟨_,rfl,U6 ⟨_,rfl,rfl,_,rfl,A1f rfl ⟨_,rfl,rfl,fin _ (by decide+kernel)⟩⟩⟩⟩
     . exact U6 ⟨_,rfl,rfl,_,rfl,U5 (nW (y:= .ceiling) (z:= .floor) (by decide)) ⟨_,rfl,U6 ⟨_,rfl,rfl,_,rfl,A1f rfl ⟨_,rfl,rfl,fin _ (by decide+kernel)⟩⟩⟩⟩
 rintro σ' H1 ⟨u,rfl⟩
 clear I_
 unfold B0b at k
 refine⟨fun σ' H'=>H'=H1/\y.toEnd sg=true/\σ'=[si r,sR y.name,si m,si sg,some (.bl (!y.toEnd sg))],?_,?_⟩
 . refine⟨_,rfl,_,rfl,?_⟩
   cases e:y.toEnd sg with
   |true=>exact U6 ⟨rfl,rfl,rfl⟩
   | false=>
     rw[e,if_neg Bool.false_ne_true] at k
     exact Y3 ⟨_,rfl,_,rfl,r,rfl,by omega,by omega,_,_,rfl,rfl,_,rfl,_,rfl,_,_,rfl,rfl,_,_,rfl,rfl,z4,fun q nq=>k q _ (u.trans (B5.upd nq)) A6⟩
 refine L2.hideG fun Z_ z_=>?_
 rintro σ' H2 ⟨rfl,e,rfl⟩
 subst z_
 rw[e,if_pos rfl] at k
 exact⟨_,rfl,z4,fun q nq=>k q _ (u.trans (B5.upd nq)) A6⟩
noncomputable def A6a:Sp:=fun vs H Q _=>∃fq r y l m s i,vs=[.ref fq,.int s,.int i]/\H fq=some (.tup (frV r y l m))/\∀q H',B5 H H' ->B6b H' q (A1c ⟨r,y,l,m⟩ s i) [] ->Q (.ref q) H'
theorem C7k:B7 Q17 Q17 (A7 A3m):=scK
theorem C9x(i lo m:Int):(if(if i>lo then i else lo)<m then(if i>lo then i else lo) else m)=B4k (A3t i lo) m:=by
 unfold B4k A3t
 repeat' split
 all_goals omega
theorem C2t(D:Def K mg "_law_nought" Q17 A3m f fd)(O:Own mg):sI P w K mg base 1 f fd Q17 A6a:=by
 refine D.F.okE C7k (fun vs H Q E h=>?_) (fun X cdv A outer s H vs Q E hX hr hx h=>?_)
 . obtain⟨fq,r,y,l,m,sg,i,rfl,_⟩:=h
   rfl
 subst hX
 obtain⟨fq,r,y,l,m,sg,i,rfl,ef,k⟩:=h
 refine⟨_,(A5 (B0 (U4 (A0 (U4 (A0 C5 (A0 (pv 1) (A0 A1 (A0 (G7 (A0g rfl) (by rfl) O.min_ boot_min (A0 (D7 D8 (pv 0) A1 (fun _ _=>rfl)) (A0 (G7 (A0b rfl) (by rfl) O.max_ boot_max (A0 (A9 G9 (A9 U2 (D7 D8 (pv 0) A1 (fun _ _=>rfl)) (D7 D8 (pv 0) A1 (fun _ _=>rfl))) A1) (A0 (pv 2) A3))) A3))) A3))))) (A0 (G4 A3) A3))))),?_⟩
 have z0:0<=sizeLine:=Nat.zero_le _
 have z2:2<=sizeLine:=C7 (by decide)
 have z4:4<=sizeLine:=C7 (by decide)
 refine⟨_,rfl,_,rfl,fq,_,_,_,rfl,rfl,SqT.of ef,C0 (j:=3) rfl,_,rfl,fq,_,_,_,rfl,rfl,SqT.of ef,C0 (j:=2) rfl,_,rfl,fq,_,_,_,rfl,rfl,SqT.of ef,C0 (j:=0) rfl,_,_,rfl,rfl,_,_,rfl,rfl,_,rfl,_,_,rfl,_,_,rfl,?_⟩
 rw[C9x]
 refine⟨z4,fun a na=>⟨z0,fun b nb=>⟨z2,fun q nq=>?_⟩⟩⟩
 have u1:=B5.upd (o:= .tup (A1c ⟨r,y,l,m⟩ sg i).vs) na
 have u2:=B5.upd (o:= .lst []) nb
 have u3:=B5.upd (o:= .tup [.ref a,.ref b]) nq
 exact k q _ (u1.trans (u2.trans u3)) ⟨a,b,A6,(u2.trans u3) _ _ A6,u3 _ _ A6⟩
noncomputable def A4a:Sp:=fun vs H Q _=>∃fq r y l m s vq lv i,vs=[.ref fq,.int s,.ref vq,.int i]/\H fq=some (.tup (frV r y l m))/\B1y r l m/\0<=s/\s<=1/\H vq=some (.tup (Lv.vs lv))/\lv.Ok/\lv.In (Cv.fin ⟨r,y,l,m⟩ lv.L)/\0<=lv.wh (Cv.fin ⟨r,y,l,m⟩ lv.L)/\lv.wh (Cv.fin ⟨r,y,l,m⟩ lv.L)<A2 r/\
 ∀q H',B5 H H' ->B6b H' q (setL ⟨r,y,l,m⟩ s lv i).1 (V1 (setL ⟨r,y,l,m⟩ s lv i).2) ->Q (.ref q) H'
theorem scLSettled:B7 ["_law_frame_here","_law_sign","_law_value","_law_ideal","_law_room","_law_way","_law_least","_law_most","_law_first","_law_power","_law_figures_here","_law_part","_law_names"] Q19 (A7 A2k):=scK
theorem C0x(D:Def K mg "_law_settled" Q19 A2k f fd)(dA:Def K mg "_law_lead" ["_law_value"] B8h f1 fd1)(dB:sI P w K mg base 3 f1 fd1 ["_law_value"] C3w)
   (dC:Def K mg "_law_at" Q28 D0a f2 fd2) (dD:sI P w K mg base 2 f2 fd2 Q28 D3m) (dE:Def K mg "_law_goes_up" Q34 B6w f3 fd3) (dF:sI P w K mg base 1 f3 fd3 Q34 C5h) (dG:Def K mg "_law_ten" ["_law_power"] A8p f4 fd4) (dH:sI P w K mg base 1 f4 fd4 ["_law_power"] A7e)
   (dJ:Def K mg "_law_count" Q18 A6b f5 fd5) (dL:sI P w K mg base 1 f5 fd5 Q18 A8s) (dM:Def K mg "_law_burst" Q42 B1w f6 fd6) (dN:sI P w K mg base 2 f6 fd6 Q42 B9x) (O:Own mg):sI P w K mg base 4 f fd Q19 A4a:=by
 refine D.F.okE scLSettled (fun vs H Q E h=>?_) (fun X cdv A outer s H vs Q E hX hr hx h=>?_)
 . obtain⟨fq,r,y,l,m,sg,vq,lv,i,rfl,_⟩:=h
   rfl
 subst hX
 obtain⟨fq,r,y,l,m,sg,vq,lv,i,rfl,ef,fr,s0,s1,ev,lo,li,w0,w1,k⟩:=h
 unfold setL at k
 refine⟨_,(A4 (B3 (A7j (pv 0) (A7b rfl (U8 (U1 (i:=4) scLSettled.nd rfl (Or.inl rfl)) (U8 (U1 (i:=5) scLSettled.nd rfl (Or.inl rfl)) (U8 (U1 (i:=6) scLSettled.nd rfl (Or.inl rfl)) (U8 (U1 (i:=7) scLSettled.nd rfl (Or.inl rfl)) A2x))))))) (A4 (B3 (D0 (i:=8) scLSettled.nd rfl (Or.inl rfl) (C4 dA dB hr hx (A0 (pv 2) A3)))) (A4 (B3 (D0 (i:=9) scLSettled.nd rfl (Or.inl rfl) (A9 G9 (A9 U2 (G7 (A0b rfl) (by rfl) O.max_ boot_max (A0 (pv 8) (A0 (pv 6) A3))) (pv 4)) A1))) (A4 (B3 (A7j (C4 dC dD hr hx (A0 (pv 2) (A0 (pv 9) A3))) (A7b rfl (U8 (U1 (i:=10) scLSettled.nd rfl (Or.inl rfl)) (U8 (U1 (i:=11) scLSettled.nd rfl (Or.inl rfl)) A2x))))) (A4 (B3 (D0 (i:=12) scLSettled.nd rfl (Or.inl rfl) (G4 A3))) (A4 (B3 (D9 (B9 D4 (pv 11) A1 (B8 _)) (A4 (B3 (A1y PassesOwn.leaving (PW.pt (A4b (B9 D4 (A9 U3 (pv 10) A1) A1 (B8 _)) (A2e (B9 A6u (pv 9) (pv 3) (B8 _))))) (A4 (B3 (D0 (i:=10) scLSettled.nd rfl (Or.inl rfl) (A9 D6 (pv 10) A1))) (A5 (B3 (D0 (i:=9) scLSettled.nd rfl (Or.inl rfl) (A9 G9 (pv 9) A1))))))) (A5 (B3 (D0 (i:=12) scLSettled.nd rfl (Or.inl rfl) (A9 D2p (G4 (A0 C5 A3)) (Y7 A0v (by rfl) O.int_ boot_int (A0 (G3 A5a (pv 9) (pv 3) (B8 _)) A3))))))) (A4 (B3 (D0 (i:=10) scLSettled.nd rfl (Or.inl rfl) (A9 G9 (pv 10) (Y7 A0v (by rfl) O.int_ boot_int (A0 (C4 dE dF hr hx (A0 (pv 5) (A0 (pv 1) (A0 (A9 U3 (pv 10) A1) (A0 (pv 11) A3))))) A3))))) (A4 (B3 (D9 (B9 D4 (pv 10) (C4 dG dH hr hx (A0 (pv 4) A3)) (B8 _)) (A4 (B3 (D0 (i:=10) scLSettled.nd rfl (Or.inl rfl) (A9 D6 (pv 10) A1))) (A5 (B3 (D0 (i:=9) scLSettled.nd rfl (Or.inl rfl) (A9 G9 (pv 9) A1))))) C6)) (A5 (B3 (D0 (i:=12) scLSettled.nd rfl (Or.inl rfl) (G4 (A0 C5 (A0 C5 A3)))))))))) (A4 (B3 (D9 (B9 A6u (pv 8) (pv 6) (B8 _)) (A5 (B3 (D0 (i:=12) scLSettled.nd rfl (Or.inl rfl) (A9 B2t (A9 B2t (A9 D2p (G4 (A0 C5 A3)) (Y7 A0v (by rfl) O.int_ boot_int (A0 (G3 A2j C5 (pv 12) (by rfl)) A3))) (G4 (A0 C5 A3))) (pv 12))))) C6)) (A4 (B3 (D9 (PW.pt (A4b (B9 A5a (pv 10) A1 (B8 _)) (A2e (B9 A5a (A9 U2 (A9 G9 (pv 9) (C4 dJ dL hr hx (A0 (pv 10) A3))) A1) (pv 7) (B8 _))))) (A5 (B0 (U4 (A0 (C4 dM dN hr hx (A0 (pv 4) (A0 (pv 5) (A0 (pv 7) (A0 (pv 1) A3))))) (A0 (G4 (A0 C5 (A0 C5 (A0 C5 A3)))) A3))))) C6)) (A5 (B0 (U4 (A0 (U4 (A0 C5 (A0 (pv 1) (A0 (pv 10) (A0 (pv 9) A3))))) (A0 (pv 12) A3))))))))))))),?_⟩
 have z0:0<=sizeLine:=Nat.zero_le _
 have z1:1<=sizeLine:=C7 (by decide)
 have z2:2<=sizeLine:=C7 (by decide)
 have z3:3<=sizeLine:=C7 (by decide)
 have z4:4<=sizeLine:=C7 (by decide)
 have d10:(0:Int)<10/\(10:Int).natAbs.log2<9000:=⟨by decide,by decide+kernel⟩
 have kb:∀b:Bool, -(2^63:Int)<=(if b=true then(1:Int) else 0)/\(if b=true then(1:Int) else 0)<2^63/\1*(if b=true then(1:Int) else 0).toNat<=sizeLine:=fun b=>by
   cases b
   . exact⟨by decide,by decide,Nat.zero_le _⟩
   . exact⟨by decide,by decide,z1⟩
 have ok:(Cv.mk r y l m).Ok:=⟨fr.r1,fr.r2,fr.l1,fr.l2,fr.m1,fr.m2⟩
 have r1:=fr.r1;have r2:=fr.r2
 refine⟨fun σ' H'=>H'=H/\σ'=[sr fq,si sg,sr vq,si i,si r,sR y.name,si l,si m,none,none,none,none,none],⟨_,rfl,fq,_,rfl,SqT.of ef,rfl,_,_,rfl,_,_,rfl,_,_,rfl,_,_,rfl,rfl,rfl,rfl⟩,?_⟩
 rintro σ' H1 ⟨rfl,rfl⟩
 refine⟨fun σ' H'=>B5 H1 H'/\σ'=[sr fq,si sg,sr vq,si i,si r,sR y.name,si l,si m,si lv.L,none,none,none,none],⟨_,rfl,vq,lv,rfl,ev,lo,fun H' s'=>⟨s',rfl⟩⟩,?_⟩
 rintro σ' H2 ⟨t2,rfl⟩
 have pb:=J6a lv (Cv.fin ⟨r,y,l,m⟩ lv.L)
 have wr:0<=lv.wh (Cv.fin ⟨r,y,l,m⟩ lv.L)/\lv.wh (Cv.fin ⟨r,y,l,m⟩ lv.L)<A2 r:=⟨w0,w1⟩
 have fe:=G5e r y l m lv.L
 clear w0 w1
 generalize Cv.fin ⟨r,y,l,m⟩ lv.L=q at*
 refine⟨fun σ' H'=>H'=H2/\σ'=[sr fq,si sg,sr vq,si i,si r,sR y.name,si l,si m,si lv.L,si q,none,none,none],?_,?_⟩
 . refine⟨_,rfl,_,rfl,_,_,rfl,_,rfl,_,_,rfl,rfl,_,_,rfl,rfl,rfl,?_⟩
   rw[<-fe]
   rfl
 rintro σ' H3 ⟨rfl,rfl⟩
 refine⟨fun σ' H'=>B5 H1 H'/\σ'=[sr fq,si sg,sr vq,si i,si r,sR y.name,si l,si m,si lv.L,si q,si (lv.wh q),si (lv.pt q),none],?_,?_⟩
 . exact⟨_,rfl,_,rfl,vq,lv,q,rfl,t2 _ _ ev,lo,li,fun rr H' s' er=>⟨rr,_,rfl,SqT.of er,rfl,_,_,rfl,_,_,rfl,rfl,t2.trans s',rfl⟩⟩
 rintro σ' H4 ⟨t4,rfl⟩
 generalize lv.pt q=pt at*
 generalize lv.wh q=wh at*
 generalize lv.L=L at*
 refine⟨fun σ' H'=>∃a,B5 H1 H'/\H' a=some (.lst [])/\σ'=[sr fq,si sg,sr vq,si i,si r,sR y.name,si l,si m,si L,si q,si wh,si pt,sr a],⟨z0,fun a na=>⟨a,t4.trans (B5.upd na),A6,rfl⟩⟩,?_⟩
 refine L2.hideG fun Z_ z_=>?_
 rintro σ' H5 ⟨a,t5,ea,rfl⟩
 subst z_
 have nn:0<=(V9 ⟨r,y,l,m⟩ sg wh pt q i).1:=by
   unfold V9
   split
   . exact(A8k i (i-q).toNat wh q wr.1).1
   . have hu:0<=upI y sg wh pt:=by
       unfold upI
       generalize (if pt=0 then false else y.goes sg (wh % 10) pt)=g
       cases g with
       |true=>show 0<=wh+1;omega
       |false=>exact wr.1
     generalize upI y sg wh pt=u at hu
     unfold A5f
     split
     . show 0<=u/10;omega
     . exact hu
 refine⟨fun σ' H'=>∃a,B5 H1 H'/\H' a=some (.lst ((Y1 pt (decide ((V9 ⟨r,y,l,m⟩ sg wh pt q i).2>i))).map V.str))/\σ'=[sr fq,si sg,sr vq,si i,si r,sR y.name,si l,si m,si L,si ((V9 ⟨r,y,l,m⟩ sg wh pt q i).2),si ((V9 ⟨r,y,l,m⟩ sg wh pt q i).1),si pt,sr a],?_,?_⟩
 . refine ⟨_,rfl,rfl,_,rfl,G8 (fun h=>?_) (fun h=>?_)⟩
   . have h:pt=0:=V.int.inj h
     subst h
     have en:V9 ⟨r,y,l,m⟩ sg wh 0 q i=Z7 i wh q:=by unfold V9;rw[if_pos rfl]
     rw[en]
     refine⟨fun σ' H'=>H'=H5/\σ'=[sr fq,si sg,sr vq,si i,si r,sR y.name,si l,si m,si L,si ((Z7 i wh q).2),si ((Z7 i wh q).1),si 0,sr a],?_,?_⟩
     . refine A1b (fun σ H6=>H6=H5/\∃f p:Int,Z7 i f p=Z7 i wh q/\σ=[sr fq,si sg,sr vq,si i,si r,sR y.name,si l,si m,si L,si p,si f,si 0,sr a]) (fun σ _=>match σ with|_::_::_::_::_::_::_::_::_::some (.int p)::_=>(i-p).toNat|_=>0) ⟨rfl,wh,q,rfl,rfl⟩ ?_ ?_
       . rintro σ H6 ⟨rfl,f,p,e,rfl⟩
         have stop:¬(p<i/\f % 10=0) ->(f,p)=Z7 i wh q:=fun h=>by rw[<-e,B2m h]
         refine⟨_,rfl,_,_,rfl,rfl,d10.1,rfl,_,rfl,G8 (fun h2=>?_) (fun h2=>U6 ⟨rfl,by rw[<-stop fun q=>h2 (congrArg V.int q.2)]⟩)⟩
         refine⟨_,rfl,_,rfl,_,_,rfl,rfl,_,rfl,G8 (fun h1=>?_) (fun h1=>⟨rfl,by rw[<-stop fun q=>h1 q.1]⟩)⟩
         have h1:p<i:=h1
         have h2:f % 10=0:=V.int.inj h2
         refine⟨fun σ' H'=>H'=H6/\σ'=[sr fq,si sg,sr vq,si i,si r,sR y.name,si l,si m,si L,si p,si (f/10),si 0,sr a],⟨_,rfl,_,_,rfl,rfl,d10,rfl,rfl⟩,?_⟩
         rintro σ' H7 ⟨rfl,rfl⟩
         refine⟨_,?_,fun _ _ h=>h⟩
         refine⟨_,rfl,_,_,rfl,rfl,⟨rfl,f/10,p+1,(B1z h1 h2).symm.trans e,rfl⟩,?_⟩
         show(i-(p+1)).toNat<(i-p).toNat
         omega
       . rintro σ H6 Q1 Q2 hQ ⟨v1,e1,a1,a2,e2,e3,e4,e5,c,ec,q⟩
         refine⟨v1,e1,a1,a2,e2,e3,e4,e5,c,ec,?_⟩
         cases c with
         |false=>exact U6 (hQ _ _ (by simpa using q))
         | true=>
           rw[if_pos rfl] at q ⊢
           obtain⟨v1,e,v2,e2,a,b,e3,e4,c,e5,q⟩:=q
           exact⟨v1,e,v2,e2,a,b,e3,e4,c,e5,hQ _ _ q⟩
     rintro σ' H6 ⟨rfl,rfl⟩
     refine⟨_,?_,fun _ _ h=>h⟩
     generalize (Z7 i wh q).2=p'
     refine⟨z1,fun a1 n1=>⟨_,rfl,_,rfl,_,_,rfl,rfl,.inr ⟨_,rfl,a1,_,_,rfl,rfl,A6,(kb (decide (p'>i))).1,(kb (decide (p'>i))).2.1,(kb (decide (p'>i))).2.2,fun a2 n2=>?_⟩⟩⟩
     rw[D0s]
     refine⟨a2,t5.trans ((B5.upd n1).trans (B5.upd n2)),?_,rfl⟩
     rw[A6]
     unfold Y1 C9f
     rw[if_pos rfl]
   . have h:¬pt=0:=fun z=>h (congrArg V.int z)
     have en:V9 ⟨r,y,l,m⟩ sg wh pt q i=A5f r (upI y sg wh pt) q:=by unfold V9;rw[if_neg h]
     have er:∀c,Y1 pt c=(["off","cut"]:List Str):=fun c=>by unfold Y1;rw[if_neg h]
     rw[en,er]
     have m0:=Int.emod_nonneg wh (by decide:(10:Int)≠0)
     have m1:=Int.emod_lt_of_pos wh (by decide:(0:Int)<10)
     refine⟨fun σ' H'=>B5 H1 H'/\σ'=[sr fq,si sg,sr vq,si i,si r,sR y.name,si l,si m,si L,si q,si (upI y sg wh pt),si pt,sr a],?_,?_⟩
     . refine⟨_,rfl,_,rfl,_,rfl,_,rfl,_,_,rfl,rfl,d10.1,_,rfl,y,sg,wh % 10,pt,rfl,s0,s1,m0,by omega,by omega,pb.2,fun H6 s6=> .inr ⟨_,rfl,_,_,rfl,rfl,t5.trans s6,?_⟩⟩
       have eu:upI y sg wh pt=wh+(if y.goes sg (wh % 10) pt=true then 1 else 0):=by
         unfold upI
         rw[if_neg h]
         cases y.goes sg (wh % 10) pt with
         |true=>rfl
         |false=>show wh=wh+0;omega
       rw[eu]
       rfl
     rintro σ' H6 ⟨t6,rfl⟩
     generalize upI y sg wh pt=v
     refine⟨fun σ' H'=>H'=H6/\σ'=[sr fq,si sg,sr vq,si i,si r,sR y.name,si l,si m,si L,si ((A5f r v q).2),si ((A5f r v q).1),si pt,sr a],?_,?_⟩
     . unfold A5f
       refine⟨_,rfl,_,rfl,r,rfl,by omega,by omega,rfl,_,rfl,G8 (fun e=>?_) (fun e=>?_)⟩
       . have e:v=A2 r:=V.int.inj e
         rw[if_pos e]
         refine⟨fun σ' H'=>H'=H6/\σ'=[sr fq,si sg,sr vq,si i,si r,sR y.name,si l,si m,si L,si q,si (v/10),si pt,sr a],⟨_,rfl,_,_,rfl,rfl,d10,rfl,rfl⟩,?_⟩
         rintro σ' H7 ⟨rfl,rfl⟩
         refine⟨_,?_,fun _ _ h=>h⟩
         exact⟨_,rfl,_,_,rfl,rfl,rfl,rfl⟩
       . have e:¬v=A2 r:=fun z=>e (congrArg V.int z)
         rw[if_neg e]
         exact⟨rfl,rfl⟩
     rintro σ' H7 ⟨rfl,rfl⟩
     refine⟨_,?_,fun _ _ h=>h⟩
     exact⟨z2,fun a1 n1=>⟨a1,t6.trans (B5.upd n1),A6,rfl⟩⟩
 refine L2.hideG fun Z_ z_=>?_
 rintro σ' H6 ⟨a,t6,ea,rfl⟩
 subst z_
 unfold A3b at k
 generalize (V9 ⟨r,y,l,m⟩ sg wh pt q i).1=f' at*
 generalize (V9 ⟨r,y,l,m⟩ sg wh pt q i).2=p' at*
 generalize decide (p'>i)=cu at*
 have rl:=C7h (pt:=pt) (c:=cu)
 refine⟨fun σ' H'=>∃a,B5 H1 H'/\H' a=some (.lst ((V1 (Y1 pt cu++A1a l L pt)).map V.str))/\σ'=[sr fq,si sg,sr vq,si i,si r,sR y.name,si l,si m,si L,si p',si f',si pt,sr a],?_,?_⟩
 . refine⟨_,rfl,_,rfl,_,_,rfl,rfl,_,rfl,G8 (fun h=>?_) (fun h=>⟨a,t6,by rw[<-G3s h];exact ea,rfl⟩)⟩
   refine⟨_,?_,fun _ _ h=>h⟩
   refine⟨z1,fun a1 n1=>⟨_,rfl,a,_,rfl,.inl (SqL.of ((B5.upd n1) _ _ ea)),rfl,Y9 _,.inr ⟨_,rfl,?_⟩⟩⟩
   have u1:=B5.upd (o:= .lst [.str "sunk"]) n1
   have e1:(upd H6 a1 (.lst [.str "sunk"])) a1=some (.lst [.str "sunk"]):=A6
   generalize upd H6 a1 (.lst [.str "sunk"])=H7 at u1 e1
   have ei:(if false=true then !inV (V.str "off") ((Y1 pt cu).map V.str) else inV (V.str "off") ((Y1 pt cu).map V.str))= !decide (pt=0):=by rw[if_neg Bool.false_ne_true,G7g]
   rw[ei]
   refine⟨a1,_,_,rfl,rfl,e1,(kb _).1,(kb _).2.1,(kb _).2.2,fun a2 n2=>?_⟩
   rw[D0s]
   refine⟨z1,fun a3 n3=>?_⟩
   have u2:=B5.upd (o:= .lst ((C9f "sunk" !decide (pt=0)).map V.str)) n2
   have u3:=B5.upd (o:= .lst [.str "faint"]) n3
   have rl2:(C9f "sunk" !decide (pt=0)).length<=1:=by cases decide (pt=0)<;>decide
   refine⟨a2,a3,_,_,rfl,rfl,u3 _ _ A6,A6,C7 (by rw[List.length_map];show _+1<=_;omega),fun a4 n4=>?_⟩
   have u4:=B5.upd (o:= .lst ((C9f "sunk" !decide (pt=0)).map V.str++ [.str "faint"])) n4
   refine⟨_,rfl,a4,a,_,_,rfl,rfl,A6,(u1.trans (u2.trans (u3.trans u4))) _ _ ea,C7 (by rw[List.length_append,List.length_map,List.length_map];show _+1+_<=_;omega),fun a5 n5=>?_⟩
   refine⟨a5,t6.trans (u1.trans (u2.trans (u3.trans (u4.trans (B5.upd n5))))),?_,rfl⟩
   rw[A6, <-G4z h,List.map_append,List.map_append]
   rfl
 clear ea
 refine L2.hideG fun Z_ z_=>?_
 rintro σ' H7 ⟨a,t7,ea,rfl⟩
 subst z_
 refine⟨fun σ' H'=>H'=H7/\A0q m f' p'=false/\σ'=[sr fq,si sg,sr vq,si i,si r,sR y.name,si l,si m,si L,si p',si f',si pt,sr a],?_,?_⟩
 . refine⟨_,rfl,_,_,rfl,rfl,_,rfl,G8 (fun h=>?_) (fun h=>U6 ⟨rfl,?_,rfl⟩)⟩
   . have h:f'>0:=h
     have eb:A0q m f' p'=decide (p'+V0 f'-1>m):=by unfold A0q;rw[if_neg (by omega)]
     rw[eb] at k
     refine⟨_,rfl,_,rfl,f',rfl,nn,_,_,rfl,rfl,_,_,rfl,rfl,_,rfl,_,_,rfl,rfl,_,rfl,G8 (fun h2=>?_) (fun h2=>⟨rfl,by rw[eb];exact decide_eq_false h2,rfl⟩)⟩
     rw[decide_eq_true (show p'+V0 f'-1>m from h2),if_pos rfl] at k
     refine⟨_,rfl,_,rfl,_,rfl,_,rfl,r,y,l,m,sg,rfl,r1,r2,s0,s1,fun q' H' s' eq'=>⟨z3,fun a1 n1=>⟨z2,fun a2 n2=>?_⟩⟩⟩
     have u1:=B5.upd (o:= .lst [.str "burst",.str "off",.str "cut"]) n1
     have u2:=B5.upd (o:= .tup [.ref q',.ref a1]) n2
     exact k a2 _ (t7.trans (s'.trans (u1.trans u2))) ⟨q',a1,A6,(u1.trans u2) _ _ eq',u2 _ _ A6⟩
   . have h:¬f'>0:=h
     unfold A0q
     rw[if_pos (by omega)]
 refine L2.hideG fun Z_ z_=>?_
 rintro σ' H8 ⟨rfl,e,rfl⟩
 subst z_
 rw[e,if_neg Bool.false_ne_true] at k
 refine⟨_,rfl,_,rfl,_,rfl,z4,fun t1 n1=>⟨_,rfl,z2,fun q' nq=>?_⟩⟩
 have u1:=B5.upd (o:= .tup (Nm.vs ⟨.plain,sg,f',p'⟩)) n1
 have u2:=B5.upd (o:= .tup [.ref t1,.ref a]) nq
 exact k q' _ (t7.trans (u1.trans u2)) ⟨t1,a,A6,u2 _ _ A6,(u1.trans u2) _ _ ea⟩
noncomputable abbrev C4w:Stmt:=(top 68)
theorem C4j{t:Int}(h:SzL t):1<=V0 t/\V0 t<=500:=by
 have fb:=A3y h.sz
 refine⟨fb.2.2,?_⟩
 apply Classical.byContradiction
 intro z
 have a:A2 500<=A2 (V0 t-1):=V3 (by omega)
 have:=h.2
 omega
theorem B2g{v:Cv}{t b n:Int}(ok:v.Ok)(ht:SzL t)(hb:SzL b)(n0: -1300<=n)(n1:n<=1300):(Lv.rat t b n).In (v.fin (n+Z4 t b))/\0<=whI t b (n-v.fin (n+Z4 t b))/\whI t b (n-v.fin (n+Z4 t b))<A2 v.r:=by
 have ft:=C4j ht;have fb:=C4j hb
 have r1:=ok.r1;have r2:=ok.r2;have l1:=ok.l1;have l2:=ok.l2
 have lf: -501<=Z4 t b/\Z4 t b<=501:=by
   unfold Z4
   split<;>omega
 have wr:=C4e (s1:=n-(n+Z4 t b)) (s2:=n-v.fin (n+Z4 t b)) (r:=v.r) ht.sz hb.sz (A6h ht.sz hb.sz n) r1 (by
   unfold Cv.fin A3t
   split<;>omega)
 refine⟨?_,wr⟩
 show -1500<=n-v.fin (n+Z4 t b)/\n-v.fin (n+Z4 t b)<=1500
 unfold Cv.fin A3t
 split<;>omega
theorem C7c{t s s0 r:Int}(ht:1<=t)(h:A3w t s0)(hr:1<=r)(e:s<=s0+2*(r-1)):whQ t s<A2 r:=by
 have wq:=A2n (s:=s) ht
 have bp:=C8 (-s)
 have key:t*A2 s<A2 (2*r)*A2 (-s):=by
   have p0:=C8 (-s0)
   by_cases hs:s0<=s
   . have c:=Z6 hs
     have q:t*A2 s*A2 (-s0)=t*A2 s0*A2 (-s)*A2 (s-s0):=by
       calc t*A2 s*A2 (-s0)=t*(A2 s*A2 (-s0)):=by ac_rfl
         _=t*(A2 s0*A2 (-s)*A2 (s-s0)):=by rw[c]
         _=t*A2 s0*A2 (-s)*A2 (s-s0):=by ac_rfl
     have a1:t*A2 s0*A2 (-s)<100*A2 (-s0)*A2 (-s):=Int.mul_lt_mul_of_pos_right h.2 bp
     have a2:t*A2 s0*A2 (-s)*A2 (s-s0)<100*A2 (-s0)*A2 (-s)*A2 (s-s0):=Int.mul_lt_mul_of_pos_right a1 (C8 _)
     have g:A2 (s-s0)<=A2 (2*(r-1)):=V3 (by omega)
     have a3:100*A2 (-s0)*A2 (-s)*A2 (s-s0)<=100*A2 (-s0)*A2 (-s)*A2 (2*(r-1)):=Int.mul_le_mul_of_nonneg_left g (Int.le_of_lt (Int.mul_pos (Int.mul_pos (by decide) p0) bp))
     have e2:A2 (2*r)=100*A2 (2*(r-1)):=by
       unfold A2
       rw[show(2*r).toNat=(2*(r-1)).toNat+2 by omega,Nat.pow_add,Int.natCast_mul,Int.mul_comm]
       rfl
     have e3:100*A2 (-s0)*A2 (-s)*A2 (2*(r-1))=A2 (2*r)*A2 (-s)*A2 (-s0):=by rw[e2];ac_rfl
     exact Int.lt_of_mul_lt_mul_right (by rw[q, <-e3];omega) (Int.le_of_lt p0)
   . have c:=Z6 (show s<=s0 by omega)
     have q:t*A2 s0*A2 (-s)=t*A2 s*A2 (-s0)*A2 (s0-s):=by
       calc t*A2 s0*A2 (-s)=t*(A2 s0*A2 (-s)):=by ac_rfl
         _=t*(A2 s*A2 (-s0)*A2 (s0-s)):=by rw[c]
         _=t*A2 s*A2 (-s0)*A2 (s0-s):=by ac_rfl
     have a1:t*A2 s0*A2 (-s)<100*A2 (-s0)*A2 (-s):=Int.mul_lt_mul_of_pos_right h.2 bp
     have d:=C8 (s0-s)
     have a2:t*A2 s*A2 (-s0)*1<=t*A2 s*A2 (-s0)*A2 (s0-s):=Int.mul_le_mul_of_nonneg_left (by omega) (Int.le_of_lt (Int.mul_pos (Int.mul_pos (by omega) (C8 _)) p0))
     have g:100<=A2 (2*r):=by
       have:A2 2<=A2 (2*r):=V3 (by omega)
       have e:A2 2=100:=rfl
       omega
     have a3:100*(A2 (-s0)*A2 (-s))<=A2 (2*r)*(A2 (-s0)*A2 (-s)):=Int.mul_le_mul_of_nonneg_right g (Int.le_of_lt (Int.mul_pos p0 bp))
     have e3:100*A2 (-s0)*A2 (-s)=100*(A2 (-s0)*A2 (-s)):=by ac_rfl
     have e4:A2 (2*r)*(A2 (-s0)*A2 (-s))=A2 (2*r)*A2 (-s)*A2 (-s0):=by ac_rfl
     exact Int.lt_of_mul_lt_mul_right (a:=A2 (-s0)) (by rw[q] at a1;rw[<-e4];omega) (Int.le_of_lt p0)
 apply Classical.byContradiction
 intro z
 have w:A2 r<=whQ t s:=by omega
 have ww:A2 r*A2 r<=whQ t s*whQ t s:=Int.mul_le_mul w w (Int.le_of_lt (C8 _)) wq.1
 have e:A2 (2*r)=A2 r*A2 r:=by
   unfold A2
   rw[<-Int.natCast_mul, <-Nat.pow_add]
   congr 2
   omega
 have:=wq.2.1
 have b:A2 r*A2 r*A2 (-s)<=whQ t s*whQ t s*A2 (-s):=Int.mul_le_mul_of_nonneg_right ww (Int.le_of_lt bp)
 rw[e] at key
 omega
theorem B6u{v:Cv}{t n:Int}(ok:v.Ok)(ht:SzQ t)(n0: -200<=n)(n1:n<=200): -200<=n-2*v.fin (A0f t n)/\n-2*v.fin (A0f t n)<=200/\whQ t (n-2*v.fin (A0f t n))<A2 v.r:=by
 have ld:=A8t ht n
 have lb:=B0r ht ld
 have r1:=ok.r1;have r2:=ok.r2;have l1:=ok.l1;have l2:=ok.l2
 have rm:=C7c (s:=n-2*v.fin (A0f t n)) (r:=v.r) ht.1 ld r1 (by
   unfold Cv.fin A3t
   split<;>omega)
 refine⟨?_,?_,rm⟩
 . unfold Cv.fin A3t
   split<;>omega
 unfold Cv.fin A3t
 split<;>omega
theorem A2h:SzL 1:=⟨by decide,by decide+kernel⟩
noncomputable def rootR (v:Cv) (x:Nm):Nm×List Str:=if x.f=0 then(A1c v x.s (x.p/2),[]) else if x.s=1 then(A5b,["void"]) else setL v 0 (.roo x.f x.p) (x.p/2)
noncomputable def B2a (CN CC CT CR CQ:Addr):Sp:=fun vs H Q E=>A4d CN CC CT CR (A3v CR) (B3f CR) vs H Q E\/A4d CN CC CT CQ (A5j CQ) (B9c CQ) vs H Q E
noncomputable def C9v (CN CC CT:Addr):Sp:=fun vs H Q E=>∃c v a b xs ys n x,vs=[.ref c,.ref n]/\Y2 CC H c v a b xs ys/\v.Ok/\xs.length<=900/\V1 xs=xs/\V6 CN H n x/\x.k= .plain/\x.Ok/\A1h CN CC CT H c v b xs ys (rootR v x) Q E
theorem G6p:B7 Q35 Q35 (A7 C4w):=scK
theorem G3w{f f1 f2 f3 f4 f5 fQ CN CC CB' CT CR CQ CE:Addr}{fd fd1 fd2 fd3 fd4 fd5 fdQ:FuncData}{d0:Value}{gP:List Value ->List Value ->List Value}{vP:List V ->List V ->List V}(D:Def K mg "root" Q35 C4w f fd)(dA:Def K mg "need_number" ["thing"] A5d f1 fd1)(dB:sI P w K mg base 1 f1 fd1 ["thing"] (A8z K CN CB'))
   (dC:Def K mg "nothing" [] A0z f2 fd2) (dD:sI P w K mg base 3 f2 fd2 [] (A1m CN)) (dE:Def K mg "nought" Q11 A1v f3 fd3) (dF:sI P w K mg base 3 f3 fd3 Q11 (A2t CN CC)) (dG:Def K mg "void" ["context"] B4y f4 fd4) (dH:sI P w K mg base 4 f4 fd4 ["context"] (B7b CN CC CT))
   (dJ:Def K mg "settled" Q12 A1z f5 fd5) (dL:sI P w K mg base 6 f5 fd5 Q12 (B2a CN CC CT CR CQ)) (N:Num K mg CN) (MQ:G4u P w K mg base CQ fQ fdQ d0 gP vP) (RQ:C9j K mg CQ CE):sI P w K mg base 7 f fd Q35 (C9v CN CC CT):=by
 refine D.F.okE G6p (fun vs H Q E h=>?_) (fun X cdv A outer s H vs Q E hX hr hx h=>?_)
 . obtain⟨c,v,a,b,xs,ys,n,x,rfl,_⟩:=h
   rfl
 subst hX
 obtain⟨c,v,a,b,xs,ys,n,x,rfl,hc,ok,lx,ox,hn,hk,xo,kk⟩:=h
 refine⟨_,(A4 (U9 (C4 dA dB hr hx (A0 (pv 1) A3))) (A4 (D9 (B9 D4 (D3 (pv 1) rfl) C5 (B8 _)) (A5 (B0 (A9k dC dD hr hx))) C6) (A4 (D9 (PW.pt (A4b (B9 D4 (D3 (pv 1) rfl) C5 (B8 _)) (A2e (B9 D4 (D3 (pv 1) rfl) A1 (B8 _))))) (A5 (B0 (C4 dE dF hr hx (A0 (pv 0) (A0 (D3 (pv 1) rfl) (A0 (A9 D6 (D3 (pv 1) rfl) A1) A3)))))) C6) (A4 (D9 (B9 D4 (D3 (pv 1) rfl) A1 (B8 _)) (A5 (B0 (C4 dG dH hr hx (A0 (pv 0) A3)))) C6) (A4 (D9 (B9 D4 (D3 (pv 1) rfl) C5 (B8 _)) (A5 (B0 (pv 1))) C6) (A5 (B0 (C4 dJ dL hr hx (A0 (pv 0) (A0 A1 (A0 (A3n MQ.m MQ.g hr RQ.g MQ.b3 .nil hx (A0 (D3 (pv 1) rfl) (A0 (D3 (pv 1) rfl) A3))) (A0 (A9 D6 (D3 (pv 1) rfl) A1) A3)))))))))))),?_⟩
 obtain⟨dn,en⟩:=id hn
 have xp0:=xo.p0;have xp1:=xo.p1;have xf0:=xo.f0;have xf1:=xo.f1
 have npl:∀{z:Str},Kd.plain.str≠z ->¬V.str x.k.str=V.str z:=fun hz e=>by
   rw[hk] at e
   exact hz (by injection e)
 have d2:(0:Int)<2/\(2:Int).natAbs.log2<9000:=⟨by decide,by decide+kernel⟩
 refine⟨_,rfl,_,rfl,.inl ⟨n,_,_,_,_,rfl,hn,?_⟩⟩
 refine⟨_,rfl,n,CN,dn,_,_,rfl,en,N.cl,N.n1,A3q _ _ _ _,rfl,_,rfl,U5 (npl (by decide+kernel)) ?_⟩
 refine⟨_,rfl,n,CN,dn,_,_,rfl,en,N.cl,N.n1,A3q _ _ _ _,rfl,_,rfl,A1f (by rw[hk];rfl) ?_⟩
 refine⟨_,rfl,n,CN,dn,_,_,rfl,en,N.cl,N.n3,A4n _ _ _ _,rfl,_,rfl,?_⟩
 unfold rootR at kk
 by_cases hf:x.f=0
 . rw[if_pos hf] at kk
   refine A1f (congrArg V.int hf) ?_
   exact⟨_,rfl,_,rfl,n,CN,dn,_,_,rfl,en,N.cl,N.n2,A4c _ _ _ _,_,rfl,n,CN,dn,_,_,rfl,en,N.cl,N.n4,A2f _ _ _ _,_,_,rfl,rfl,d2,c,v,a,b,xs,ys,x.s,x.p/2,rfl,hc,fun m H' nm sm num=>kk.calm ox sm hc num⟩
 rw[if_neg hf] at kk
 refine U5 (fun z=>hf (by injection z)) ?_
 refine⟨_,rfl,n,CN,dn,_,_,rfl,en,N.cl,N.n2,A4c _ _ _ _,rfl,_,rfl,G8 (fun hs=>?_) (fun hs=>?_)⟩
 . rw[if_pos (V.int.inj hs)] at kk
   exact⟨_,rfl,c,v,a,b,xs,ys,rfl,hc,lx,kk⟩
 rw[if_neg fun z=>hs (congrArg V.int z)] at kk
 refine⟨_,rfl,n,CN,dn,_,_,rfl,en,N.cl,N.n1,A3q _ _ _ _,rfl,_,rfl,U5 (npl (by decide+kernel)) ?_⟩
 refine⟨_,rfl,_,rfl,n,CN,dn,_,_,rfl,en,N.cl,N.n3,A4n _ _ _ _,_,rfl,n,CN,dn,_,_,rfl,en,N.cl,N.n4,A2f _ _ _ _,fun q dq m1 m2 me=>J2g m1 m2 me fun H4 s4 ra=>⟨rfl,?_⟩⟩
 have szq:SzQ x.f:=⟨by omega,Int.lt_of_le_of_lt xf1 (by decide+kernel)⟩
 obtain⟨q0,q1,wr⟩:=B6u ok szq xp0 xp1
 have ld:=A8t szq x.p
 have wq:=A2n (t:=x.f) (s:=x.p-2*v.fin (A0f x.f x.p)) (by omega)
 obtain⟨dn4,en4⟩:=hn.same s4
 refine⟨_,rfl,n,CN,dn4,_,_,rfl,en4,N.cl,N.n4,A2f _ _ _ _,_,_,rfl,rfl,d2,.inr ⟨c,v,a,b,xs,ys,q,rooE CQ x.f x.p (A0f x.f x.p),0,x.p/2,rfl,hc.same s4,ok,lx,J6q szq (by omega) (by omega) ld,ra,⟨q0,q1⟩,wq.1,wr,by decide,by decide,kk.same s4⟩⟩
noncomputable abbrev B7p:Stmt:=(top 95)
noncomputable abbrev B8k:Stmt:=(top 94)
theorem G0v{a b:Int}(a0:0<=a)(a1:a<=1)(b0:0<=b)(b1:b<=1):(a+b) % 2=A0e a b:=by
 unfold A0e
 split<;>omega
theorem A8e:V1 []=[]:=by decide+kernel
theorem A8m:V1 (["void"]:List Str)=(["void"]:List Str):=by decide+kernel
theorem C6w:V1 (["split"]:List Str)=(["split"]:List Str):=by decide+kernel
structure A0k(H:Hp)(q:Addr)(x:Nm):Prop where
 e:H q=some (.tup x.pv)
 o:x.Ok
 k:x.k= .plain
theorem A0k.same{H H':Hp}{q:Addr}{x:Nm}(h:A0k H q x)(s:B5 H H'):A0k H' q x:=⟨s _ _ h.e,h.o,h.k⟩
structure B8v(H:Hp)(q:Addr)(v:Cv):Prop where
 e:H q=some (.tup (frV v.r v.y v.l v.m))
 ok:B1y v.r v.l v.m
theorem B8v.same{H H':Hp}{q:Addr}{v:Cv}(h:B8v H q v)(s:B5 H H'):B8v H' q v:=⟨s _ _ h.e,h.ok⟩
theorem B8v.cv{H:Hp}{q:Addr}{v:Cv}(h:B8v H q v):v.Ok:=⟨h.ok.r1,h.ok.r2,h.ok.l1,h.ok.l2,h.ok.m1,h.ok.m2⟩
theorem D3g{W r:Int}(h0:0<=W)(hr:1<=r):V0 W>r↔W>=A2 r:=by
 have tp:=C8 r
 by_cases z:W=0
 . subst z
   have:V0 0=1:=by decide+kernel
   constructor
   . intro h;omega
   . intro h;omega
 obtain⟨n,rfl⟩:∃n:Nat,W=(n:Int):=⟨W.toNat,by omega⟩
 obtain⟨j,h1,h2⟩:=A4u n (by omega)
 rw[A2y h2 h1]
 obtain⟨k,rfl⟩:∃k:Nat,r=(k:Int):=⟨r.toNat,by omega⟩
 have e:A2 (k:Int)=((10^k:Nat):Int):=by unfold A2;rw[Int.toNat_natCast]
 rw[e]
 constructor
 . intro h
   exact Int.ofNat_le.mpr (Nat.le_trans (Nat.pow_le_pow_right (by decide) (by omega)) h1)
 intro h
 have h3:10^k<=n:=Int.ofNat_le.mp h
 have:10^k<10^(j+1):=Nat.lt_of_le_of_lt h3 h2
 have:=(Nat.pow_lt_pow_iff_right (by decide:1<10)).mp this
 omega
theorem A6f{f:Int}(h0:0<=f)(h:f≠0)(h1:f<=10^60-1):SzL f:=by
 have e:(10:Int)^60<=A2 500:=by decide+kernel
 exact⟨by omega,by omega⟩
noncomputable def C4s (x1 x2:Nm):Nm×List Str:=if x1.f=0 then(A5b,["void"]) else(⟨.end_,A0e x1.s x2.s,0,0⟩,["split"])
noncomputable def ovR (v:Cv) (x1 x2:Nm):Nm×List Str:=if x2.f=0 then C4s x1 x2 else if x1.f=0 then(A1c v (A0e x1.s x2.s) (x1.p-x2.p),[]) else setL v (A0e x1.s x2.s) (.rat x1.f x2.f (x1.p-x2.p)) (x1.p-x2.p)
noncomputable def rsR (v:Cv) (x1 x2:Nm):Nm×List Str:=if x2.f=0 then(A5b,["void"]) else if A0a x1 x2>=A2 v.r then(A5b,["void"]) else if(A0n x1 x2).f=0 then(A1c v x1.s (V8 x1 x2),[]) else setL v x1.s (.rat (A0n x1 x2).f 1 (V8 x1 x2)) (V8 x1 x2)
theorem C5f{t b n:Int}(ht:SzL t)(hb:SzL b):(Lv.rat t b n).Ok:=⟨ht.sz,hb.sz⟩
noncomputable def C4h:Sp:=fun vs H Q _=>∃fq v q1 q2 x1 x2,vs=[.ref fq,.ref q1,.ref q2]/\B8v H fq v/\A0k H q1 x1/\A0k H q2 x2/\∀q H',B5 H H' ->B6b H' q (rsR v x1 x2).1 (V1 (rsR v x1 x2).2) ->Q (.ref q) H'
theorem scLRest:B7 ["_law_frame_here","_law_one","_law_other","_law_ten_here","_law_whole","_law_left"] Q43 (A7 B7p):=scK
noncomputable def C5y:Sp:=fun vs H Q _=>∃fq v q1 x,vs=[.ref fq,.ref q1]/\B8v H fq v/\A0k H q1 x/\∀q H',B5 H H' ->B6b H' q (rootR v x).1 (V1 (rootR v x).2) ->Q (.ref q) H'
theorem G1h:B7 Q36 Q36 (A7 B8k):=scK
theorem G6c{x1 x2:Nm}(o1:x1.Ok)(o2:x2.Ok):0<=A0a x1 x2/\A0a x1 x2<A2 500:=by
 have p10:=o1.p0;have p11:=o1.p1;have p20:=o2.p0;have p21:=o2.p1
 obtain⟨b1,b2,b3⟩:=B6e x1 x2
 have w0:0<=A0a x1 x2:=Int.ediv_nonneg (B0a o1) (B0a o2)
 have wl:A0a x1 x2<=Z2 x1 (V8 x1 x2):=Int.ediv_le_self _ (B0a o1)
 refine⟨w0,Int.lt_of_le_of_lt wl ?_⟩
 by_cases z:x1.f=0
 . unfold Z2;rw[z,Int.zero_mul];exact C8 _
 exact(A6e o1 z (by omega)).2
theorem C8d(D:Def K mg "_law_rest" Q43 B7p f fd)(dA:Def K mg "_law_ten" ["_law_power"] A8p f2 fd2)(dB:sI P w K mg base 1 f2 fd2 ["_law_power"] A7e)
   (dC:Def K mg "_law_nought" Q17 A3m f3 fd3) (dD:sI P w K mg base 1 f3 fd3 Q17 A6a)
   (dE:Def K mg "_law_count" Q18 A6b f4 fd4) (dF:sI P w K mg base 1 f4 fd4 Q18 A8s)
   (dG:Def K mg "_law_settled" Q19 A2k f6 fd6) (dH:sI P w K mg base 4 f6 fd6 Q19 A4a) (O:Own mg):sI P w K mg base 5 f fd Q43 C4h:=by
 refine D.F.okE scLRest (fun vs H Q E h=>?_) (fun X cdv A outer s H vs Q E hX hr hx h=>?_)
 . obtain⟨fq,v,q1,q2,x1,x2,rfl,_⟩:=h
   rfl
 subst hX
 obtain⟨fq,v,q1,q2,x1,x2,rfl,fr,a1,a2,k⟩:=h
 refine⟨_,(A4 (B3 (D9 (B9 D4 (D7 D8 (pv 2) A1 (fun _ _=>rfl)) A1 (B8 _)) (A5 (B0 (U4 (A0 (U4 (A0 C5 (A0 A1 (A0 A1 (A0 A1 A3))))) (A0 (G4 (A0 C5 A3)) A3))))) C6)) (A4 (B3 (D0 (i:=3) scLRest.nd rfl (Or.inl rfl) (G7 (A0g rfl) (by rfl) O.min_ boot_min (A0 (D7 D8 (pv 1) A1 (fun _ _=>rfl)) (A0 (D7 D8 (pv 2) A1 (fun _ _=>rfl)) A3))))) (A4 (B3 (A7j (G7 A8u (by rfl) O.divmod_ PyProof.Rows.boot_divmod (A0 (A9 G0 (D7 D8 (pv 1) A1 (fun _ _=>rfl)) (C4 dA dB hr hx (A0 (A9 U2 (D7 D8 (pv 1) A1 (fun _ _=>rfl)) (pv 3)) A3))) (A0 (A9 G0 (D7 D8 (pv 2) A1 (fun _ _=>rfl)) (C4 dA dB hr hx (A0 (A9 U2 (D7 D8 (pv 2) A1 (fun _ _=>rfl)) (pv 3)) A3))) A3))) (A7b rfl (U8 (U1 (i:=4) scLRest.nd rfl (Or.inl rfl)) (U8 (U1 (i:=5) scLRest.nd rfl (Or.inl rfl)) A2x))))) (A4 (B3 (D9 (B9 A5a (C4 dE dF hr hx (A0 (pv 4) A3)) (D7 D8 (pv 0) A1 (fun _ _=>rfl)) (B8 _)) (A5 (B0 (U4 (A0 (U4 (A0 C5 (A0 A1 (A0 A1 (A0 A1 A3))))) (A0 (G4 (A0 C5 A3)) A3))))) C6)) (A4 (B3 (D9 (B9 D4 (pv 5) A1 (B8 _)) (A5 (B0 (C4 dC dD hr hx (A0 (pv 0) (A0 (D7 D8 (pv 1) A1 (fun _ _=>rfl)) (A0 (pv 3) A3)))))) C6)) (A5 (B0 (C4 dG dH hr hx (A0 (pv 0) (A0 (D7 D8 (pv 1) A1 (fun _ _=>rfl)) (A0 (U4 (A0 (pv 5) (A0 A1 (A0 (pv 3) (A0 A2a A3))))) (A0 (pv 3) A3)))))))))))),?_⟩
 have o1:=a1.o;have o2:=a2.o
 have s10:=o1.s0;have s11:=o1.s1;have s20:=o2.s0;have s21:=o2.s1
 have p10:=o1.p0;have p11:=o1.p1;have p20:=o2.p0;have p21:=o2.p1
 have f10:=o1.f0;have f11:=o1.f1;have f20:=o2.f0;have f21:=o2.f1
 have ok:=fr.cv
 have us:=A9y x1.s x2.s
 have z4:4<=sizeLine:=C7 (by decide)
 unfold rsR at k
 let I_:L2.St ->L2.Hp ->Prop:=fun σ' H'=>H'=H/\x2.f≠0/\σ'=[sr fq,sr q1,sr q2,none,none,none]
 refine⟨I_,?_,?_⟩
 . refine⟨_,rfl,q2,_,_,_,rfl,rfl,SqT.of a2.e,C0 (j:=1) rfl,rfl,_,rfl,G8 (fun h=>?_) (fun h=>⟨rfl,fun z=>h (congrArg V.int z),rfl⟩)⟩
   rw[if_pos (V.int.inj h),A8m] at k
   refine⟨C7 (show 4<=1000 by decide),fun a na=>⟨C7 (show 1<=1000 by decide),fun b nb=>⟨C7 (show 2<=1000 by decide),fun q nq=>?_⟩⟩⟩
   exact k q _ (((B5.upd na).trans ((B5.upd nb).trans (B5.upd nq)))) ⟨a,b,A6,((B5.upd nb).trans (B5.upd nq)) _ _ A6,(B5.upd nq) _ _ A6⟩
 refine L2.hideG fun Z_ z_=>?_
 rintro σ' H2 ⟨rfl,hf2,rfl⟩
 subst z_
 clear I_
 rw[if_neg hf2] at k
 obtain⟨w0,wT⟩:=G6c o1 o2
 obtain⟨g0,g1,g2,g3,g4⟩:=B6v o1 o2 hf2
 obtain⟨b1,b2,b3⟩:=B6e x1 x2
 have hs:=A6e (q:=V8 x1 x2) o2 hf2 (by omega)
 have mul:∀x:Nm,x.Ok ->∀e:Int,e<=1500 ->IntMulOk x.f (A2 e):=fun x ok e he=>by
   by_cases z:x.f=0
   . rw[z];exact A2w.ok (.inl ⟨by decide,by decide⟩)
   . exact A4g (A9x ok.f0 z ok.f1) he
 refine⟨fun σ' H'=>H'=H2/\σ'=[sr fq,sr q1,sr q2,si (V8 x1 x2),none,none],⟨_,rfl,q1,_,_,_,rfl,rfl,SqT.of a1.e,C0 (j:=2) rfl,_,rfl,q2,_,_,_,rfl,rfl,SqT.of a2.e,C0 (j:=2) rfl,_,_,rfl,rfl,rfl⟩,?_⟩
 rintro σ' H2' ⟨rfl,rfl⟩
 let I_:L2.St ->L2.Hp ->Prop:=fun σ' H'=>B5 H2' H'/\σ'=[sr fq,sr q1,sr q2,si (V8 x1 x2),si (A0a x1 x2),si ((A0n x1 x2).f)]
 refine⟨I_,?_,?_⟩
 . refine⟨_,rfl,q1,_,_,_,rfl,rfl,SqT.of a1.e,C0 (j:=1) rfl,_,rfl,q1,_,_,_,rfl,rfl,SqT.of a1.e,C0 (j:=2) rfl,_,rfl,_,_,rfl,rfl,_,rfl,by omega,by omega,_,_,rfl,rfl,mul x1 o1 _ (by omega),_,rfl,q2,_,_,_,rfl,rfl,SqT.of a2.e,C0 (j:=1) rfl,_,rfl,q2,_,_,_,rfl,rfl,SqT.of a2.e,C0 (j:=2) rfl,_,rfl,_,_,rfl,rfl,_,rfl,by omega,by omega,_,_,rfl,rfl,mul x2 o2 _ (by omega),_,_,rfl,⟨hs.1,Nat.lt_trans hs.log (by decide)⟩,fun q nq=>⟨q,_,rfl,SqT.of A6,rfl,_,_,rfl,_,_,rfl,rfl,B5.upd nq,?_⟩⟩
   rw[g4]
   rfl
 rintro σ' H4 ⟨s3,rfl⟩
 clear I_
 have a1:=a1.same s3;have a2:=a2.same s3;have fr:=fr.same s3
 have r1:=ok.r1
 let I_:L2.St ->L2.Hp ->Prop:=fun σ' H'=>H'=H4/\¬A0a x1 x2>=A2 v.r/\σ'=[sr fq,sr q1,sr q2,si (V8 x1 x2),si (A0a x1 x2),si ((A0n x1 x2).f)]
 refine⟨I_,?_,?_⟩
 . refine⟨_,rfl,A0a x1 x2,rfl,w0,_,rfl,fq,_,_,_,rfl,rfl,SqT.of fr.e,C0 (j:=0) rfl,_,_,rfl,rfl,_,rfl,G8 (fun h=>?_) (fun h=>⟨rfl,fun z=>h ((D3g w0 r1).mpr z),rfl⟩)⟩
   rw[if_pos ((D3g w0 r1).mp h),A8m] at k
   refine⟨C7 (show 4<=1000 by decide),fun a na=>⟨C7 (show 1<=1000 by decide),fun b nb=>⟨C7 (show 2<=1000 by decide),fun q nq=>?_⟩⟩⟩
   exact k q _ (s3.trans (((B5.upd na).trans ((B5.upd nb).trans (B5.upd nq))))) ⟨a,b,A6,((B5.upd nb).trans (B5.upd nq)) _ _ A6,(B5.upd nq) _ _ A6⟩
 refine L2.hideG fun Z_ z_=>?_
 rintro σ' H5 ⟨rfl,hr',rfl⟩
 subst z_
 clear I_
 rw[if_neg hr'] at k
 let I_:L2.St ->L2.Hp ->Prop:=fun σ' H'=>H'=H5/\(A0n x1 x2).f≠0/\σ'=[sr fq,sr q1,sr q2,si (V8 x1 x2),si (A0a x1 x2),si ((A0n x1 x2).f)]
 refine⟨I_,?_,?_⟩
 . refine⟨_,rfl,rfl,_,rfl,G8 (fun h=>?_) (fun h=>⟨rfl,fun z=>h (congrArg V.int z),rfl⟩)⟩
   rw[if_pos (V.int.inj h),A8e] at k
   exact⟨_,rfl,_,rfl,q1,_,_,_,rfl,rfl,SqT.of a1.e,C0 (j:=0) rfl,_,rfl,fq,v.r,v.y,v.l,v.m,_,_,rfl,fr.e,fun q H' s'=>k q H' (s3.trans s')⟩
 refine L2.hideG fun Z_ z_=>?_
 rintro σ' H6 ⟨rfl,hl,rfl⟩
 subst z_
 clear I_
 rw[if_neg hl] at k
 have tw:SzL (A0n x1 x2).f:=⟨by omega,g1⟩
 have g2: -200<=V8 x1 x2:=g2
 have g3:V8 x1 x2<=200:=g3
 have ri:=B2g (v:=v) (n:=V8 x1 x2) ok tw A2h (by omega) (by omega)
 refine⟨_,rfl,_,rfl,q1,_,_,_,rfl,rfl,SqT.of a1.e,C0 (j:=0) rfl,_,rfl,_,rfl,z4,fun vq nv=>?_⟩
 have u:=B5.upd (o:= .tup (Lv.vs (.rat (A0n x1 x2).f 1 (V8 x1 x2)))) nv
 exact⟨_,rfl,fq,v.r,v.y,v.l,v.m,_,vq,.rat (A0n x1 x2).f 1 (V8 x1 x2),_,rfl,u _ _ fr.e,fr.ok,s10,s11,A6,C5f tw A2h,ri.1,ri.2.1,ri.2.2,fun q H' s'=>k q H' (s3.trans (u.trans s'))⟩
theorem C8v(D:Def K mg "_law_root" Q36 B8k f fd)(dA:Def K mg "_law_nought" Q17 A3m f3 fd3)(dB:sI P w K mg base 1 f3 fd3 Q17 A6a)
   (dC:Def K mg "_law_settled" Q19 A2k f6 fd6) (dD:sI P w K mg base 4 f6 fd6 Q19 A4a):sI P w K mg base 5 f fd Q36 C5y:=by
 refine D.F.okE G1h (fun vs H Q E h=>?_) (fun X cdv A outer s H vs Q E hX hr hx h=>?_)
 . obtain⟨fq,v,q1,x,rfl,_⟩:=h
   rfl
 subst hX
 obtain⟨fq,v,q1,x,rfl,fr,a1,k⟩:=h
 refine⟨_,(A4 (D9 (B9 D4 (D7 D8 (pv 1) A1 (fun _ _=>rfl)) A1 (B8 _)) (A5 (B0 (C4 dA dB hr hx (A0 (pv 0) (A0 (D7 D8 (pv 1) A1 (fun _ _=>rfl)) (A0 (A9 D6 (D7 D8 (pv 1) A1 (fun _ _=>rfl)) A1) A3)))))) C6) (A4 (D9 (B9 D4 (D7 D8 (pv 1) A1 (fun _ _=>rfl)) A1 (B8 _)) (A5 (B0 (U4 (A0 (U4 (A0 C5 (A0 A1 (A0 A1 (A0 A1 A3))))) (A0 (G4 (A0 C5 A3)) A3))))) C6) (A5 (B0 (C4 dC dD hr hx (A0 (pv 0) (A0 A1 (A0 (U4 (A0 (D7 D8 (pv 1) A1 (fun _ _=>rfl)) (A0 A1 (A0 (D7 D8 (pv 1) A1 (fun _ _=>rfl)) (A0 A2a A3))))) (A0 (A9 D6 (D7 D8 (pv 1) A1 (fun _ _=>rfl)) A1) A3))))))))),?_⟩
 have d2:=dv (n:=2) (by decide) (by decide+kernel)
 have z4:4<=sizeLine:=C7 (by decide)
 have o1:=a1.o
 have f10:=o1.f0;have f11:=o1.f1
 unfold rootR at k
 refine⟨_,rfl,q1,_,_,_,rfl,rfl,SqT.of a1.e,C0 (j:=1) rfl,rfl,_,rfl,G8 (fun h=>?_) (fun h=>?_)⟩
 . rw[if_pos (V.int.inj h),A8e] at k
   exact⟨_,rfl,_,rfl,q1,_,_,_,rfl,rfl,SqT.of a1.e,C0 (j:=0) rfl,_,rfl,q1,_,_,_,rfl,rfl,SqT.of a1.e,C0 (j:=2) rfl,_,_,rfl,rfl,d2,fq,v.r,v.y,v.l,v.m,_,_,rfl,fr.e,k⟩
 have hf:¬x.f=0:=fun z=>h (congrArg V.int z)
 rw[if_neg hf] at k
 clear h
 refine⟨_,rfl,q1,_,_,_,rfl,rfl,SqT.of a1.e,C0 (j:=0) rfl,rfl,_,rfl,G8 (fun h=>?_) (fun h=>?_)⟩
 . rw[if_pos (V.int.inj h),A8m] at k
   refine⟨C7 (show 4<=1000 by decide),fun a na=>⟨C7 (show 1<=1000 by decide),fun b nb=>⟨C7 (show 2<=1000 by decide),fun q nq=>?_⟩⟩⟩
   exact k q _ (((B5.upd na).trans ((B5.upd nb).trans (B5.upd nq)))) ⟨a,b,A6,((B5.upd nb).trans (B5.upd nq)) _ _ A6,(B5.upd nq) _ _ A6⟩
 rw[if_neg fun z=>h (congrArg V.int z)] at k
 have szq:SzQ x.f:=⟨by omega,Int.lt_of_le_of_lt f11 (by decide+kernel)⟩
 obtain⟨r0,r1,wr⟩:=B6u fr.cv szq o1.p0 o1.p1
 have wq:=A2n (t:=x.f) (s:=x.p-2*v.fin (A0f x.f x.p)) (by omega)
 refine⟨_,rfl,_,rfl,q1,_,_,_,rfl,rfl,SqT.of a1.e,C0 (j:=1) rfl,_,rfl,q1,_,_,_,rfl,rfl,SqT.of a1.e,C0 (j:=2) rfl,z4,fun vq nv=>?_⟩
 have u:=B5.upd (o:= .tup (Lv.vs (.roo x.f x.p))) nv
 have e1:=u _ _ a1.e
 exact⟨_,rfl,q1,_,_,_,rfl,rfl,SqT.of e1,C0 (j:=2) rfl,_,_,rfl,rfl,d2,fq,v.r,v.y,v.l,v.m,0,vq,.roo x.f x.p,_,rfl,u _ _ fr.e,fr.ok,by decide,by decide,A6,⟨szq,o1.p0,o1.p1⟩,⟨r0,r1⟩,wq.1,wr,fun q H' s'=>k q H' (u.trans s')⟩
noncomputable abbrev C3u:Stmt:=(top 96)
noncomputable def B0c (w:Int) (x1 x2:Nm):Int:=if w=0 then Z9 x1 x2 else if w=1 then x1.p+x2.p else x1.p-x2.p
noncomputable def due6 (v:Cv) (w:Int) (x1 x2:Nm):Nm×List Str:=if w>2 then(if w=3 then rootR v x1 else rsR v x1 x2) else if w=0 then C3a v x1 x2 else if w=1 then B1f v (A0e x1.s x2.s) (x1.f*x2.f) (x1.p+x2.p) (x1.p+x2.p) else ovR v x1 x2
theorem G5g{w:Int}(a b c:Int)(h0:0<=w)(h2:w<=2):atI ([.int a,.int b,.int c]:List V) w=some (.int (if w=0 then a else if w=1 then b else c)):=by
 rcases(by omega:w=0\/w=1\/w=2) with rfl|rfl|rfl<;>rfl
theorem D3k{x:Nm}{q:Int}(h0:0<=x.s)(h1:x.s<=1):x.f*A2 (x.p-q)*(1-2*x.s)=x.wh q:=by
 unfold Nm.wh
 rcases(show x.s=0\/x.s=1 by omega) with e|e<;>rw[e]
 . rw[if_neg (by decide)];omega
 rw[if_pos rfl];omega
theorem G1p(y:Wy):(if decide (V.str y.name=V.str "floor")=true then(1:Int) else 0)=G1f y:=by cases y<;>decide+kernel
theorem G1m(n:Int):(if decide (n<0)=true then(1:Int) else 0)=B2k n:=by
 unfold B2k
 by_cases h:n<0
 . rw[decide_eq_true h,if_pos rfl,if_pos h]
 rw[decide_eq_false h,if_neg Bool.false_ne_true,if_neg h]
theorem B7j{x:Nm}{q:Int}(ok:x.Ok)(e:x.p-q<=400): -(A2 460)<=x.wh q/\x.wh q<=A2 460:=by
 have f0:=ok.f0;have f1:=ok.f1
 have a:x.f*A2 (x.p-q)<=10^60*A2 (x.p-q):=Int.mul_le_mul_of_nonneg_right (by omega) (Int.le_of_lt (C8 _))
 have b:(10:Int)^60*A2 (x.p-q)<=10^60*A2 400:=Int.mul_le_mul_of_nonneg_left (V3 e) (by decide+kernel)
 have c:(10:Int)^60*A2 400=A2 460:=by decide+kernel
 have d:0<=x.f*A2 (x.p-q):=Int.mul_nonneg f0 (Int.le_of_lt (C8 _))
 unfold Nm.wh
 split<;>omega
theorem B1m{v:Cv}{s f p i:Int}(h:Sz f):A4j v s f 1 p (p+V0 f-1) i=setL v s (.rat f 1 p) i:=by
 have b:=A3y h
 have e:Z4 f 1=V0 f-1:=by
   have e1:V0 1=1:=by decide+kernel
   have e2:A2 (-(V0 f-1))=1:=by unfold A2;rw[show(-(V0 f-1)).toNat=0 by omega];rfl
   unfold Z4
   rw[e1,e2,Int.mul_one,Int.one_mul,if_neg (by omega)]
 have eL:(Lv.rat f 1 p).L=p+V0 f-1:=by
   show p+Z4 f 1=_
   rw[e]
   omega
 unfold setL A4j
 rw[eL]
 rfl
noncomputable def D3f:Sp:=fun vs H Q _=>∃fq v q1 q2 x1 x2,∃n:Int,vs=[.ref fq,.int n,.ref q1,.ref q2]/\B8v H fq v/\A0k H q1 x1/\A0k H q2 x2/\0<=n/\n<=4/\∀q H',B5 H H' ->B6b H' q (due6 v n x1 x2).1 (V1 (due6 v n x1 x2).2) ->Q (.ref q) H'
theorem scLDue:B7 ["_law_frame_here","_law_way","_law_one","_law_other","_law_sign","_law_ten_here","_law_whole"] Q44 (A7 C3u):=scK
theorem G0b(D:Def K mg "_law_due" Q44 C3u f fd)(dC:Def K mg "_law_ten" ["_law_power"] A8p f1 fd1)(dD:sI P w K mg base 1 f1 fd1 ["_law_power"] A7e)
   (dG:Def K mg "_law_rest" Q43 B7p f2 fd2) (dH:sI P w K mg base 5 f2 fd2 Q43 C4h) (dJ:Def K mg "_law_root" Q36 B8k f3 fd3) (dL:sI P w K mg base 5 f3 fd3 Q36 C5y)
   (dE:Def K mg "_law_nought" Q17 A3m f4 fd4) (dF:sI P w K mg base 1 f4 fd4 Q17 A6a) (dA:Def K mg "_law_settled" Q19 A2k f5 fd5) (dB:sI P w K mg base 4 f5 fd5 Q19 A4a) (O:Own mg):sI P w K mg base 6 f fd Q44 D3f:=by
 refine D.F.okE scLDue (fun vs H Q E h=>?_) (fun X cdv A outer s H vs Q E hX hr hx h=>?_)
 . obtain⟨fq,v,q1,q2,x1,x2,n,rfl,_⟩:=h
   rfl
 subst hX
 obtain⟨fq,v,q1,q2,x1,x2,n,rfl,fr,a1,a2,n0,n4,k⟩:=h
 refine⟨_,(A4 (B3 (D9 (B9 A5a (pv 1) A1 (B8 _)) (A5 (B0 (V4 (B9 D4 (pv 1) A1 (B8 _)) (C4 dJ dL hr hx (A0 (pv 0) (A0 (pv 2) A3))) (C4 dG dH hr hx (A0 (pv 0) (A0 (pv 2) (A0 (pv 3) A3))))))) C6)) (A4 (B3 (D0 (i:=4) scLDue.nd rfl (Or.inl rfl) (A9 U3 (A9 G9 (D7 D8 (pv 2) A1 (fun _ _=>rfl)) (D7 D8 (pv 3) A1 (fun _ _=>rfl))) A1))) (A4 (B3 (D0 (i:=5) scLDue.nd rfl (Or.inl rfl) (D7 A0h (G4 (A0 (G7 (A0g rfl) (by rfl) O.min_ boot_min (A0 (D7 D8 (pv 2) A1 (fun _ _=>rfl)) (A0 (D7 D8 (pv 3) A1 (fun _ _=>rfl)) A3))) (A0 (A9 G9 (D7 D8 (pv 2) A1 (fun _ _=>rfl)) (D7 D8 (pv 3) A1 (fun _ _=>rfl))) (A0 (A9 U2 (D7 D8 (pv 2) A1 (fun _ _=>rfl)) (D7 D8 (pv 3) A1 (fun _ _=>rfl))) A3)))) (pv 1) (fun _ _=>rfl)))) (A4 (B3 (D9 (PW.pt (A4b (B9 D4 (pv 1) A1 (B8 _)) (A2e (B9 D4 (D7 D8 (pv 3) A1 (fun _ _=>rfl)) A1 (B8 _))))) (A5 (B0 (V4 (B9 D4 (D7 D8 (pv 2) A1 (fun _ _=>rfl)) A1 (B8 _)) (U4 (A0 (U4 (A0 C5 (A0 A1 (A0 A1 (A0 A1 A3))))) (A0 (G4 (A0 C5 A3)) A3))) (U4 (A0 (U4 (A0 C5 (A0 (pv 4) (A0 A1 (A0 A1 A3))))) (A0 (G4 (A0 C5 A3)) A3)))))) C6)) (A4 (B3 (D9 (B9 D4 (pv 1) A1 (B8 _)) (A4 (B3 (D0 (i:=6) scLDue.nd rfl (Or.inl rfl) (A9 G0 (A9 G0 (D7 D8 (pv 2) A1 (fun _ _=>rfl)) (C4 dC dD hr hx (A0 (A9 U2 (D7 D8 (pv 2) A1 (fun _ _=>rfl)) (pv 5)) A3))) (A9 U2 A1 (A9 G0 A1 (D7 D8 (pv 2) A1 (fun _ _=>rfl))))))) (A4 (B3 (D0 (i:=6) scLDue.nd rfl (Or.inl rfl) (A9 G9 (pv 6) (A9 G0 (A9 G0 (D7 D8 (pv 3) A1 (fun _ _=>rfl)) (C4 dC dD hr hx (A0 (A9 U2 (D7 D8 (pv 3) A1 (fun _ _=>rfl)) (pv 5)) A3))) (A9 U2 A1 (A9 G0 A1 (D7 D8 (pv 3) A1 (fun _ _=>rfl)))))))) (A4 (B3 (D9 (B9 D4 (pv 6) A1 (B8 _)) (A5 (B0 (C4 dE dF hr hx (A0 (pv 0) (A0 (V4 (B9 D4 (pv 4) A1 (B8 _)) (D7 D8 (pv 2) A1 (fun _ _=>rfl)) (Y7 A0v (by rfl) O.int_ boot_int (A0 (G3 D4 (D7 D8 (pv 0) A1 (fun _ _=>rfl)) C5 (B8 _)) A3))) (A0 (pv 5) A3)))))) C6)) (A5 (B0 (C4 dA dB hr hx (A0 (pv 0) (A0 (Y7 A0v (by rfl) O.int_ boot_int (A0 (G3 A6u (pv 6) A1 (B8 _)) A3)) (A0 (U4 (A0 (G7 A3p (by rfl) O.abs_ boot_abs (A0 (pv 6) A3)) (A0 A1 (A0 (pv 5) (A0 A2a A3))))) (A0 (pv 5) A3)))))))))) C6)) (A4 (B3 (D9 (PW.pt (B0v (B9 D4 (D7 D8 (pv 2) A1 (fun _ _=>rfl)) A1 (B8 _)) (A5w (B9 D4 (D7 D8 (pv 3) A1 (fun _ _=>rfl)) A1 (B8 _))))) (A5 (B0 (C4 dE dF hr hx (A0 (pv 0) (A0 (pv 4) (A0 (pv 5) A3)))))) C6)) (A4 (B3 (D9 (B9 D4 (pv 1) A1 (B8 _)) (A5 (B0 (C4 dA dB hr hx (A0 (pv 0) (A0 (pv 4) (A0 (U4 (A0 (A9 G0 (D7 D8 (pv 2) A1 (fun _ _=>rfl)) (D7 D8 (pv 3) A1 (fun _ _=>rfl))) (A0 A1 (A0 (pv 5) (A0 A2a A3))))) (A0 (pv 5) A3))))))) C6)) (A5 (B0 (C4 dA dB hr hx (A0 (pv 0) (A0 (pv 4) (A0 (U4 (A0 (D7 D8 (pv 2) A1 (fun _ _=>rfl)) (A0 (D7 D8 (pv 3) A1 (fun _ _=>rfl)) (A0 (pv 5) (A0 A2a A3))))) (A0 (pv 5) A3)))))))))))))),?_⟩
 have o1:=a1.o;have o2:=a2.o
 have s10:=o1.s0;have s11:=o1.s1;have s20:=o2.s0;have s21:=o2.s1
 have p10:=o1.p0;have p11:=o1.p1;have p20:=o2.p0;have p21:=o2.p1
 have f10:=o1.f0;have f11:=o1.f1;have f20:=o2.f0;have f21:=o2.f1
 have ok:=fr.cv
 have us:=A9y x1.s x2.s
 have z4:4<=sizeLine:=C7 (by decide)
 have z3:3<=sizeLine:=C7 (by decide)
 unfold due6 at k
 let I_:L2.St ->L2.Hp ->Prop:=fun σ' H'=>H'=H/\n<=2/\σ'=[sr fq,si n,sr q1,sr q2,none,none,none]
 refine⟨I_,?_,?_⟩
 . refine⟨_,rfl,_,_,rfl,rfl,_,rfl,G8 (fun h=>?_) (fun h=>⟨rfl,by have h:¬2<n:=h;omega,rfl⟩)⟩
   have h:2<n:=h
   rw[if_pos h] at k
   refine⟨_,rfl,rfl,_,rfl,G8 (fun h3=>?_) (fun h3=>?_)⟩
   . rw[if_pos (V.int.inj h3)] at k
     exact⟨_,rfl,_,rfl,fq,v,q1,x1,rfl,fr,a1,k⟩
   . rw[if_neg fun z=>h3 (congrArg V.int z)] at k
     exact⟨_,rfl,_,rfl,_,rfl,fq,v,q1,q2,x1,x2,rfl,fr,a1,a2,k⟩
 refine L2.hideG fun Z_ z_=>?_
 rintro σ' H1 ⟨rfl,n2,rfl⟩
 subst z_
 clear I_
 rw[if_neg (by omega)] at k
 let I_:L2.St ->L2.Hp ->Prop:=fun σ' H'=>H'=H1/\σ'=[sr fq,si n,sr q1,sr q2,si (A0e x1.s x2.s),none,none]
 refine⟨I_,?_,?_⟩
 . refine⟨_,rfl,q1,_,_,_,rfl,rfl,SqT.of a1.e,C0 (j:=0) rfl,_,rfl,q2,_,_,_,rfl,rfl,SqT.of a2.e,C0 (j:=0) rfl,_,_,rfl,rfl,_,_,rfl,rfl,(by decide:(0:Int)<2),rfl,?_⟩
   rw[<-G0v s10 s11 s20 s21]
   rfl
 rintro σ' H2 ⟨rfl,rfl⟩
 clear I_
 let I_:L2.St ->L2.Hp ->Prop:=fun σ' H'=>B5 H2 H'/\σ'=[sr fq,si n,sr q1,sr q2,si (A0e x1.s x2.s),si (B0c n x1 x2),none]
 refine⟨I_,?_,?_⟩
 . exact⟨_,rfl,q1,_,_,_,rfl,rfl,SqT.of a1.e,C0 (j:=2) rfl,_,rfl,q2,_,_,_,rfl,rfl,SqT.of a2.e,C0 (j:=2) rfl,_,_,rfl,_,rfl,q1,_,_,_,rfl,rfl,SqT.of a1.e,C0 (j:=2) rfl,_,rfl,q2,_,_,_,rfl,rfl,SqT.of a2.e,C0 (j:=2) rfl,_,_,rfl,rfl,_,rfl,q1,_,_,_,rfl,rfl,SqT.of a1.e,C0 (j:=2) rfl,_,rfl,q2,_,_,_,rfl,rfl,SqT.of a2.e,C0 (j:=2) rfl,_,_,rfl,rfl,z3,fun l nl=>⟨_,rfl,l,_,_,_,rfl,rfl,SqL.of A6,G5g _ _ _ n0 n2,B5.upd nl,rfl⟩⟩
 rintro σ' H3 ⟨s3,rfl⟩
 clear I_
 have a1:=a1.same s3;have a2:=a2.same s3;have fr:=fr.same s3
 let I_:L2.St ->L2.Hp ->Prop:=fun σ' H'=>H'=H3/\(n=2 ->x2.f≠0)/\σ'=[sr fq,si n,sr q1,sr q2,si (A0e x1.s x2.s),si (B0c n x1 x2),none]
 refine⟨I_,?_,?_⟩
 . refine⟨_,rfl,rfl,_,rfl,G8 (fun h=>?_) (fun h=>⟨rfl,fun z=>absurd (congrArg V.int z) h,rfl⟩)⟩
   have e:=V.int.inj h
   refine⟨_,rfl,q2,_,_,_,rfl,rfl,SqT.of a2.e,C0 (j:=1) rfl,rfl,_,rfl,G8 (fun h2=>?_) (fun h2=>⟨rfl,fun _ z=>h2 (congrArg V.int z),rfl⟩)⟩
   rw[if_neg (by omega),if_neg (by omega)] at k
   unfold ovR C4s at k
   rw[if_pos (V.int.inj h2)] at k
   refine⟨_,rfl,q1,_,_,_,rfl,rfl,SqT.of a1.e,C0 (j:=1) rfl,rfl,_,rfl,G8 (fun h3=>?_) (fun h3=>?_)⟩
   . rw[if_pos (V.int.inj h3),A8m] at k
     refine⟨C7 (show 4<=1000 by decide),fun a na=>⟨C7 (show 1<=1000 by decide),fun b nb=>⟨C7 (show 2<=1000 by decide),fun q nq=>?_⟩⟩⟩
     exact k q _ (s3.trans ((B5.upd na).trans ((B5.upd nb).trans (B5.upd nq)))) ⟨a,b,A6,((B5.upd nb).trans (B5.upd nq)) _ _ A6,(B5.upd nq) _ _ A6⟩
   . rw[if_neg fun z=>h3 (congrArg V.int z),C6w] at k
     refine⟨_,rfl,C7 (show 4<=1000 by decide),fun a na=>⟨C7 (show 1<=1000 by decide),fun b nb=>⟨C7 (show 2<=1000 by decide),fun q nq=>?_⟩⟩⟩
     exact k q _ (s3.trans ((B5.upd na).trans ((B5.upd nb).trans (B5.upd nq)))) ⟨a,b,A6,((B5.upd nb).trans (B5.upd nq)) _ _ A6,(B5.upd nq) _ _ A6⟩
 refine L2.hideG fun Z_ z_=>?_
 rintro σ' H4 ⟨rfl,hz,rfl⟩
 subst z_
 clear I_
 let I_:L2.St ->L2.Hp ->Prop:=fun σ' H'=>H'=H4/\n≠0/\σ'=[sr fq,si n,sr q1,sr q2,si (A0e x1.s x2.s),si (B0c n x1 x2),none]
 refine⟨I_,?_,?_⟩
 . refine⟨_,rfl,rfl,_,rfl,G8 (fun h=>?_) (fun h=>⟨rfl,fun z=>absurd (congrArg V.int z) h,rfl⟩)⟩
   have e:=V.int.inj h
   subst e
   rw[if_pos rfl] at k
   have et:B0c 0 x1 x2=Z9 x1 x2:=rfl
   rw[et]
   obtain⟨b1,b2,b3⟩:=C6h x1 x2
   have mul:∀x:Nm,x.Ok ->∀e:Int,e<=1500 ->IntMulOk x.f (A2 e):=fun x ok e he=>by
     by_cases z:x.f=0
     . rw[z];exact A2w.ok (.inl ⟨by decide,by decide⟩)
     . exact A4g (A9x ok.f0 z ok.f1) he
   have mC':∀z n:Int, -(2^64)<n ->n<2^64 ->IntMulOk n z:=fun z n a b=>A2w.ok (.inl ⟨a,b⟩)
   have mS:∀z n:Int, -(2^64)<n ->n<2^64 ->IntMulOk z n:=fun z n a b=>A2w.ok (.inr ⟨a,b⟩)
   let I_:L2.St ->L2.Hp ->Prop:=fun σ' H'=>H'=H4/\σ'=[sr fq,si 0,sr q1,sr q2,si (A0e x1.s x2.s),si (Z9 x1 x2),si (x1.wh (Z9 x1 x2))]
   refine⟨I_,?_,?_⟩
   . refine⟨_,rfl,q1,_,_,_,rfl,rfl,SqT.of a1.e,C0 (j:=1) rfl,_,rfl,q1,_,_,_,rfl,rfl,SqT.of a1.e,C0 (j:=2) rfl,_,rfl,_,_,rfl,rfl,_,rfl,by omega,by omega,_,_,rfl,rfl,mul x1 o1 _ (by omega),_,rfl,q1,_,_,_,rfl,rfl,SqT.of a1.e,C0 (j:=0) rfl,_,_,rfl,rfl,mC' _ _ (by decide) (by decide),_,_,rfl,rfl,_,_,rfl,rfl,mS _ _ (by omega) (by omega),rfl,?_⟩
     rw[<-D3k (q:=Z9 x1 x2) s10 s11]
     rfl
   rintro σ' H5 ⟨rfl,rfl⟩
   clear I_
   let I_:L2.St ->L2.Hp ->Prop:=fun σ' H'=>H'=H5/\σ'=[sr fq,si 0,sr q1,sr q2,si (A0e x1.s x2.s),si (Z9 x1 x2),si (A1x x1 x2)]
   refine⟨I_,?_,?_⟩
   . refine⟨_,rfl,_,rfl,q2,_,_,_,rfl,rfl,SqT.of a2.e,C0 (j:=1) rfl,_,rfl,q2,_,_,_,rfl,rfl,SqT.of a2.e,C0 (j:=2) rfl,_,rfl,_,_,rfl,rfl,_,rfl,by omega,by omega,_,_,rfl,rfl,mul x2 o2 _ (by omega),_,rfl,q2,_,_,_,rfl,rfl,SqT.of a2.e,C0 (j:=0) rfl,_,_,rfl,rfl,mC' _ _ (by decide) (by decide),_,_,rfl,rfl,_,_,rfl,rfl,mS _ _ (by omega) (by omega),_,_,rfl,rfl,rfl,?_⟩
     show _=([sr fq,si 0,sr q1,sr q2,si (A0e x1.s x2.s),si (Z9 x1 x2),si (x1.wh (Z9 x1 x2)+x2.wh (Z9 x1 x2))]:L2.St)
     rw[<-D3k (x:=x2) (q:=Z9 x1 x2) s20 s21]
     rfl
   rintro σ' H6 ⟨rfl,rfl⟩
   clear I_
   unfold C3a at k
   let I_:L2.St ->L2.Hp ->Prop:=fun σ' H'=>H'=H6/\A1x x1 x2≠0/\σ'=[sr fq,si 0,sr q1,sr q2,si (A0e x1.s x2.s),si (Z9 x1 x2),si (A1x x1 x2)]
   refine⟨I_,?_,?_⟩
   . refine⟨_,rfl,rfl,_,rfl,G8 (fun h=>?_) (fun h=>⟨rfl,fun z=>absurd (congrArg V.int z) h,rfl⟩)⟩
     rw[if_pos (V.int.inj h),A8e] at k
     unfold A7v at k
     refine⟨_,rfl,_,rfl,rfl,_,rfl,G8 (fun h2=>?_) (fun h2=>?_)⟩
     . have e:x1.s=x2.s:=by
         have:=V.int.inj h2
         unfold A0e at this
         split at this
         . assumption
         . omega
       rw[if_pos e] at k
       exact⟨_,rfl,q1,_,_,_,rfl,rfl,SqT.of a1.e,C0 (j:=0) rfl,_,rfl,fq,v.r,v.y,v.l,v.m,_,_,rfl,fr.e,fun q H' s'=>k q H' (s3.trans s')⟩
     . have e:¬x1.s=x2.s:=fun z=>h2 (by unfold A0e;rw[if_pos z])
       rw[if_neg e] at k
       refine⟨_,rfl,fq,_,_,_,rfl,rfl,SqT.of fr.e,C0 (j:=1) rfl,rfl,.inr ⟨_,rfl,?_⟩⟩
       rw[G1p]
       exact⟨_,rfl,fq,v.r,v.y,v.l,v.m,_,_,rfl,fr.e,fun q H' s'=>k q H' (s3.trans s')⟩
   refine L2.hideG fun Z_ z_=>?_
   rintro σ' H7 ⟨rfl,hs0,rfl⟩
   subst z_
   clear I_
   rw[if_neg hs0] at k
   have w1:=B7j (q:=Z9 x1 x2) o1 (by omega)
   have w2:=B7j (q:=Z9 x1 x2) o2 (by omega)
   have e5:2*A2 460<A2 500:=by decide+kernel
   have t3:SzL (B1g (A1x x1 x2)):=by
     unfold B1g
     unfold A1x at hs0 ⊢
     split
     . exact⟨by omega,by omega⟩
     . exact⟨by omega,by omega⟩
   have hne:¬B1g (A1x x1 x2)=0:=fun z=>by have:=t3.1;omega
   unfold B1f at k
   rw[if_neg hne,B1m t3.sz] at k
   have nb:=C9t (A1x x1 x2)
   have ri:=B2g (v:=v) (n:=Z9 x1 x2) ok t3 A2h (by omega) (by omega)
   refine⟨_,rfl,_,rfl,_,_,rfl,rfl,.inr ⟨_,rfl,?_⟩⟩
   rw[G1m]
   refine⟨_,rfl,_,rfl,_,rfl,z4,fun vq nv=>?_⟩
   have u:=B5.upd (o:= .tup (Lv.vs (.rat (B1g (A1x x1 x2)) 1 (Z9 x1 x2)))) nv
   exact⟨_,rfl,fq,v.r,v.y,v.l,v.m,_,vq,.rat (B1g (A1x x1 x2)) 1 (Z9 x1 x2),_,rfl,u _ _ fr.e,fr.ok,nb.1,nb.2,A6,C5f t3 A2h,ri.1,ri.2.1,ri.2.2,fun q H' s'=>k q H' (s3.trans (u.trans s'))⟩
 refine L2.hideG fun Z_ z_=>?_
 rintro σ' H5 ⟨rfl,hn0,rfl⟩
 subst z_
 clear I_
 rw[if_neg hn0] at k
 let I_:L2.St ->L2.Hp ->Prop:=fun σ' H'=>H'=H5/\x1.f≠0/\x2.f≠0/\σ'=[sr fq,si n,sr q1,sr q2,si (A0e x1.s x2.s),si (B0c n x1 x2),none]
 refine⟨I_,?_,?_⟩
 . have nou:x1.f=0\/x2.f=0 ->∀q H',B5 H5 H' ->B6b H' q (A1c v (A0e x1.s x2.s) (B0c n x1 x2)) [] ->Q (.ref q) H':=fun hf q H' s' d=>by
     refine k q H' (s3.trans s') ?_
     by_cases h1:n=1
     . rw[if_pos h1]
       unfold B1f
       rw[if_pos (by rcases hf with z|z<;>rw[z];exact Int.zero_mul _;exact Int.mul_zero _),A8e]
       unfold B0c at d
       rw[if_neg hn0,if_pos h1] at d
       exact d
     . have n2':n=2:=by omega
       rw[if_neg h1]
       unfold ovR
       rw[if_neg (hz n2'),if_pos (by rcases hf with z|z;exact z;exact absurd z (hz n2')),A8e]
       unfold B0c at d
       rw[if_neg hn0,if_neg h1] at d
       exact d
   refine⟨_,rfl,q1,_,_,_,rfl,rfl,SqT.of a1.e,C0 (j:=1) rfl,rfl,_,rfl,G8 (fun h=>?_) (fun h=>?_)⟩
   . exact⟨_,rfl,_,rfl,_,rfl,fq,v.r,v.y,v.l,v.m,_,_,rfl,fr.e,nou (.inl (V.int.inj h))⟩
   . refine⟨_,rfl,q2,_,_,_,rfl,rfl,SqT.of a2.e,C0 (j:=1) rfl,rfl,_,rfl,G8 (fun h2=>?_) (fun h2=>⟨rfl,fun z=>h (congrArg V.int z),fun z=>h2 (congrArg V.int z),rfl⟩)⟩
     exact⟨_,rfl,_,rfl,_,rfl,fq,v.r,v.y,v.l,v.m,_,_,rfl,fr.e,nou (.inr (V.int.inj h2))⟩
 refine L2.hideG fun Z_ z_=>?_
 rintro σ' H6 ⟨rfl,hf1,hf2,rfl⟩
 subst z_
 clear I_
 have t1:=A6f f10 hf1 f11
 have t2:=A6f f20 hf2 f21
 let I_:L2.St ->L2.Hp ->Prop:=fun σ' H'=>H'=H6/\n≠1/\σ'=[sr fq,si n,sr q1,sr q2,si (A0e x1.s x2.s),si (B0c n x1 x2),none]
 refine⟨I_,?_,?_⟩
 . refine⟨_,rfl,rfl,_,rfl,G8 (fun h=>?_) (fun h=>⟨rfl,fun z=>absurd (congrArg V.int z) h,rfl⟩)⟩
   have e:=V.int.inj h
   rw[if_pos e] at k
   have et:B0c n x1 x2=x1.p+x2.p:=by unfold B0c;rw[if_neg hn0,if_pos e]
   have t3:SzL (x1.f*x2.f):=by
     have m1:x1.f*x2.f<10^60*10^60:=by
       have a:x1.f*x2.f<=10^60*x2.f:=Int.mul_le_mul_of_nonneg_right (by omega) f20
       have b:(10:Int)^60*x2.f<10^60*10^60:=Int.mul_lt_mul_of_pos_left (by omega) (by decide+kernel)
       omega
     have m0:0<x1.f*x2.f:=Int.mul_pos (by omega) (by omega)
     have e5:(10:Int)^60*10^60<=A2 500:=by decide+kernel
     exact⟨by omega,by omega⟩
   have hne:¬x1.f*x2.f=0:=fun z=>by have:=t3.1;omega
   unfold B1f at k
   rw[if_neg hne,B1m t3.sz] at k
   have ri:=B2g (v:=v) (n:=x1.p+x2.p) ok t3 A2h (by omega) (by omega)
   rw[et]
   refine⟨_,rfl,_,rfl,_,rfl,q1,_,_,_,rfl,rfl,SqT.of a1.e,C0 (j:=1) rfl,_,rfl,q2,_,_,_,rfl,rfl,SqT.of a2.e,C0 (j:=1) rfl,_,_,rfl,rfl,IntMulOk.of_bits o1.bits o2.bits,_,rfl,z4,fun vq nv=>?_⟩
   have u:=B5.upd (o:= .tup (Lv.vs (.rat (x1.f*x2.f) 1 (x1.p+x2.p)))) nv
   exact⟨_,rfl,fq,v.r,v.y,v.l,v.m,_,vq,.rat (x1.f*x2.f) 1 (x1.p+x2.p),_,rfl,u _ _ fr.e,fr.ok,us.1,us.2,A6,C5f t3 A2h,ri.1,ri.2.1,ri.2.2,fun q H' s'=>k q H' (s3.trans (u.trans s'))⟩
 refine L2.hideG fun Z_ z_=>?_
 rintro σ' H7 ⟨rfl,hn1,rfl⟩
 subst z_
 clear I_
 have n2':n=2:=by omega
 rw[if_neg hn1] at k
 unfold ovR at k
 rw[if_neg hf2,if_neg hf1] at k
 have et:B0c n x1 x2=x1.p-x2.p:=by unfold B0c;rw[if_neg hn0,if_neg hn1]
 rw[et]
 have ri:=B2g (v:=v) (n:=x1.p-x2.p) ok t1 t2 (by omega) (by omega)
 refine⟨_,rfl,_,rfl,_,rfl,q1,_,_,_,rfl,rfl,SqT.of a1.e,C0 (j:=1) rfl,_,rfl,q2,_,_,_,rfl,rfl,SqT.of a2.e,C0 (j:=1) rfl,_,rfl,z4,fun vq nv=>?_⟩
 have u:=B5.upd (o:= .tup (Lv.vs (.rat x1.f x2.f (x1.p-x2.p)))) nv
 exact⟨_,rfl,fq,v.r,v.y,v.l,v.m,_,vq,.rat x1.f x2.f (x1.p-x2.p),_,rfl,u _ _ fr.e,fr.ok,us.1,us.2,A6,C5f t1 t2,ri.1,ri.2.1,ri.2.2,fun q H' s'=>k q H' (s3.trans (u.trans s'))⟩
theorem C0s(i:Int):∀(n:Nat) (f p:Int),p<=(A4y i n f p).2
 |0,f,p=>Int.le_refl _
 | n +1,f,p=>by
   unfold A4y
   split
   . have:=C0s i n (f/10) (p+1)
     omega
   . exact Int.le_refl _
theorem B9h(i:Int):∀(n:Nat) (f p:Int),f≠0 ->(A4y i n f p).1≠0
 |0,f,p,h=>h
 | n+1,f,p,h=>by
   unfold A4y
   split
   . exact B9h i n (f/10) (p+1) (by omega)
   . exact h
theorem D1z{v:Cv}{s wh pt q i:Int}(ok:v.Ok)(w0:0<=wh)(w1:wh<A2 v.r)(hz:wh=0 ->pt≠0/\q<=1):
   0<=(V9 v s wh pt q i).1/\(V9 v s wh pt q i).1<=10^24/\q<=(V9 v s wh pt q i).2/\((V9 v s wh pt q i).1=0 ->(V9 v s wh pt q i).2<=1):=by
 have t24:=B1r ok.r2
 have t1:A2 1<=A2 v.r:=V3 ok.r1
 have e1:A2 1=10:=rfl
 unfold V9
 by_cases hp:pt=0
 . rw[if_pos hp]
   have a:=A8k i (i-q).toNat wh q w0
   have b:=C0s i (i-q).toNat wh q
   have c:=B9h i (i-q).toNat wh q (fun z=>(hz z).1 hp)
   unfold Z7
   exact⟨a.1,by omega,b,fun z=>absurd z c⟩
 rw[if_neg hp]
 have hu:wh<=upI v.y s wh pt/\upI v.y s wh pt<=wh+1:=by
   unfold upI
   generalize (if pt=0 then false else v.y.goes s (wh % 10) pt)=g
   cases g with
   |true=>exact⟨by show wh<=wh+1;omega,Int.le_refl _⟩
   |false=>exact⟨Int.le_refl _,by show wh<=wh+1;omega⟩
 generalize upI v.y s wh pt=u at hu
 unfold A5f
 by_cases hr:u=A2 v.r
 . rw[if_pos hr]
   exact⟨by show 0<=u/10;omega,by show u/10<=10^24;omega,by show q<=q+1;omega,fun z=>by have z:u/10=0:=z;omega⟩
 rw[if_neg hr]
 exact⟨by show 0<=u;omega,by show u<=10^24;omega,Int.le_refl _,fun z=>by have z:u=0:=z;exact(hz (by omega)).2⟩
theorem B3z{v:Cv}{s wh pt L q i:Int}(ok:v.Ok)(s0:0<=s)(s1:s<=1)(w0:0<=wh)(w1:wh<A2 v.r)(q0: -100<=q)(hz:wh=0 ->pt≠0/\q<=1)(hk:(A3b v s wh pt L q i).1.k= .plain):(A3b v s wh pt L q i).1.Ok:=by
 have t24:=B1r ok.r2
 have tp:=C8 v.r
 have r1:=ok.r1;have r2:=ok.r2;have m1:=ok.m1;have m2:=ok.m2
 have big:(10:Int)^24<10^60-1:=by decide+kernel
 have nb:=D1z (s:=s) (pt:=pt) (q:=q) (i:=i) ok w0 w1 hz
 unfold A3b at hk ⊢
 by_cases hb:A0q v.m (V9 v s wh pt q i).1 (V9 v s wh pt q i).2=true
 . rw[if_pos hb] at hk ⊢
   unfold B0b at hk ⊢
   by_cases he:v.y.toEnd s=true
   . rw[if_pos he] at hk
     cases hk
   . rw[if_neg he]
     exact⟨s0,s1,by show 0<=A2 v.r-1;omega,by show A2 v.r-1<=10^60-1;omega,by show -200<=v.m-v.r+1;omega,by show v.m-v.r+1<=200;omega⟩
 rw[if_neg hb]
 generalize V9 v s wh pt q i=fp at nb hb
 obtain⟨f,p⟩:=fp
 obtain⟨n1,n2,n3,n4⟩:=nb
 have n1:0<=f:=n1
 have n2:f<=10^24:=n2
 have n3:q<=p:=n3
 refine⟨s0,s1,n1,by show f<=10^60-1;omega,by show -200<=p;omega,?_⟩
 show p<=200
 by_cases z:f=0
 . have:=n4 z
   have:p<=1:=this
   omega
 have hb:¬A0q v.m f p=true:=hb
 unfold A0q at hb
 rw[if_neg z] at hb
 have h:¬p+V0 f-1>v.m:=fun h=>hb (decide_eq_true h)
 have b:=(A3y (A9x n1 z (by omega))).2.2
 omega
theorem A2p{v:Cv}{s i:Int}(ok:v.Ok)(s0:0<=s)(s1:s<=1):(A1c v s i).Ok:=by
 have r1:=ok.r1;have r2:=ok.r2;have m1:=ok.m1;have m2:=ok.m2;have l1:=ok.l1;have l2:=ok.l2
 have h: -200<=B4k (A3t i (v.l-v.r+1)) v.m/\B4k (A3t i (v.l-v.r+1)) v.m<=200:=by
   unfold B4k A3t
   split<;>split<;>omega
 exact⟨s0,s1,Int.le_refl _,by show(0:Int)<=10^60-1;decide+kernel,h.1,h.2⟩
theorem D2h{v:Cv}(ok:v.Ok)(L:Int): -100<=v.fin L/\(L<v.fin L ->v.fin L<=1):=by
 have r1:=ok.r1;have r2:=ok.r2;have l1:=ok.l1;have l2:=ok.l2
 unfold Cv.fin A3t
 split<;>constructor<;>omega
theorem C8q{a b:Int}(h:0<a):Z3 a b≠0:=by
 unfold Z3
 rw[if_pos (decide_eq_true h)]
 split<;>split<;>omega
theorem B1v{v:Cv}{s t b n i:Int}(ok:v.Ok)(s0:0<=s)(s1:s<=1)(ht:SzL t)(hb:SzL b)(n0: -400<=n)(n1:n<=400)(hk:(setL v s (.rat t b n) i).1.k= .plain):(setL v s (.rat t b n) i).1.Ok:=by
 have ri:=B2g (v:=v) (n:=n) ok ht hb (by omega) (by omega)
 have ld:=A6h ht.sz hb.sz n
 have fb:=D2h ok (n+Z4 t b)
 have t0:0<t:=by have:=ht.1;omega
 have b0:0<b:=by have:=hb.1;omega
 unfold setL at hk ⊢
 refine B3z ok s0 s1 ri.2.1 ri.2.2 fb.1 (fun z=>?_) hk
 have z:whI t b (n-v.fin (n+Z4 t b))=0:=z
 have lt:=(C9u b0 t0 ld).1 z
 refine⟨?_,fb.2 (by omega)⟩
 show ptI t b (n-v.fin (n+Z4 t b))≠0
 unfold ptI
 rw[z,Int.zero_mul,Int.sub_zero]
 exact C8q (Int.mul_pos t0 (C8 _))
theorem D3a{v:Cv}{x:Nm}{i:Int}(ok:v.Ok)(hf:x.f≠0)(o:x.Ok)(hk:(setL v 0 (.roo x.f x.p) i).1.k= .plain):(setL v 0 (.roo x.f x.p) i).1.Ok:=by
 have f0:=o.f0
 have szq:SzQ x.f:=⟨by omega,Int.lt_of_le_of_lt o.f1 (by decide+kernel)⟩
 obtain⟨r0,r1,wr⟩:=B6u ok szq o.p0 o.p1
 have wq:=A2n (t:=x.f) (s:=x.p-2*v.fin (A0f x.f x.p)) (by omega)
 have ld:=A8t szq x.p
 have fb:=D2h ok (A0f x.f x.p)
 unfold setL at hk ⊢
 refine B3z ok (by decide) (by decide) wq.1 wr fb.1 (fun z=>?_) hk
 have z:whQ x.f (x.p-2*v.fin (A0f x.f x.p))=0:=z
 have tp:=Int.mul_pos (show 0<x.f by omega) (C8 (x.p-2*v.fin (A0f x.f x.p)))
 constructor
 . show A8j x.f (x.p-2*v.fin (A0f x.f x.p)) (whQ x.f (x.p-2*v.fin (A0f x.f x.p)))≠0
   rw[z]
   unfold A8j
   rw[if_neg (by rw[Int.zero_mul,Int.zero_mul];omega)]
   split<;>split<;>omega
 refine fb.2 (Classical.byContradiction fun h=>?_)
 have w2:=wq.2.2
 rw[z,show((0:Int)+1)*(0+1)=1 by decide,Int.one_mul] at w2
 have a:A2 (-(x.p-2*v.fin (A0f x.f x.p)))<=A2 (-(x.p-2*A0f x.f x.p)):=V3 (by omega)
 have b:x.f*A2 (x.p-2*A0f x.f x.p)<=x.f*A2 (x.p-2*v.fin (A0f x.f x.p)):=Int.mul_le_mul_of_nonneg_left (V3 (by omega)) f0
 have c:=ld.1
 omega
theorem D2j(y:Wy):0<=G1f y/\G1f y<=1:=by cases y<;>decide
theorem D9x{v:Cv}{n:Int}{x1 x2:Nm}(ok:v.Ok)(o1:x1.Ok)(o2:x2.Ok)(hk:(due6 v n x1 x2).1.k= .plain):(due6 v n x1 x2).1.Ok:=by
 have s10:=o1.s0;have s11:=o1.s1;have s20:=o2.s0;have s21:=o2.s1
 have p10:=o1.p0;have p11:=o1.p1;have p20:=o2.p0;have p21:=o2.p1
 have f10:=o1.f0;have f11:=o1.f1;have f20:=o2.f0;have f21:=o2.f1
 have us:=A9y x1.s x2.s
 revert hk
 unfold due6
 split
 . split
   . unfold rootR
     split
     . exact fun _=>A2p ok s10 s11
     . split
       . exact fun h=>absurd h (by decide)
       . rename_i hf _
         exact fun h=>D3a ok hf o1 h
   . unfold rsR
     split
     . exact fun h=>absurd h (by decide)
     . rename_i hz
       split
       . exact fun h=>absurd h (by decide)
       . split
         . exact fun _=>A2p ok s10 s11
         . rename_i hl
           obtain⟨g0,g1,g2,g3,_⟩:=B6v o1 o2 hz
           have g2: -200<=V8 x1 x2:=g2
           have g3:V8 x1 x2<=200:=g3
           exact fun h=>B1v ok s10 s11 ⟨by omega,g1⟩ A2h (by omega) (by omega) h
 split
 . unfold C3a
   split
   . refine fun _=>A2p ok ?_ ?_
     . unfold A7v
       split
       . exact s10
       . exact(D2j _).1
     . unfold A7v
       split
       . exact s11
       . exact(D2j _).2
   . rename_i hs0
     obtain⟨b1,b2,b3⟩:=C6h x1 x2
     have w1:=B7j (q:=Z9 x1 x2) o1 (by omega)
     have w2:=B7j (q:=Z9 x1 x2) o2 (by omega)
     have e5:2*A2 460<A2 500:=by decide+kernel
     have t3:SzL (B1g (A1x x1 x2)):=by
       unfold B1g
       unfold A1x at hs0 ⊢
       split
       . exact⟨by omega,by omega⟩
       . exact⟨by omega,by omega⟩
     have nb:=C9t (A1x x1 x2)
     unfold B1f
     rw[if_neg (fun z=>by have:=t3.1;omega),B1m t3.sz]
     exact fun h=>B1v ok nb.1 nb.2 t3 A2h (by omega) (by omega) h
 split
 . unfold B1f
   split
   . exact fun _=>A2p ok us.1 us.2
   . rename_i hm
     have h1:x1.f≠0:=fun z=>hm (by rw[z,Int.zero_mul])
     have h2:x2.f≠0:=fun z=>hm (by rw[z,Int.mul_zero])
     have t3:SzL (x1.f*x2.f):=by
       have m1:x1.f*x2.f<10^60*10^60:=by
         have a:x1.f*x2.f<=10^60*x2.f:=Int.mul_le_mul_of_nonneg_right (by omega) f20
         have b:(10:Int)^60*x2.f<10^60*10^60:=Int.mul_lt_mul_of_pos_left (by omega) (by decide+kernel)
         omega
       have m0:0<x1.f*x2.f:=Int.mul_pos (by omega) (by omega)
       have e5:(10:Int)^60*10^60<=A2 500:=by decide+kernel
       exact⟨by omega,by omega⟩
     rw[B1m t3.sz]
     exact fun h=>B1v ok us.1 us.2 t3 A2h (by omega) (by omega) h
 unfold ovR C4s
 split
 . split
   . exact fun h=>absurd h (by decide)
   . exact fun h=>by cases h
 rename_i h2
 split
 . exact fun _=>A2p ok us.1 us.2
 rename_i h1
 exact fun h=>B1v ok us.1 us.2 (A6f f10 h1 f11) (A6f f20 h2 f21) (by omega) (by omega) h
noncomputable def rdS (zs:List Str):PyData:= .list (zs.map PyData.str)
noncomputable def OkL (zs:List Str):Prop:=zs.length<=100/\∀z∈zs,PyData.strOk z=true
theorem J0p:∀{zs:List Str},(∀z∈zs,PyData.strOk z=true) ->PyData.canLayAll0 (zs.map PyData.str)=true/\PyData.depthAll (zs.map PyData.str)<=1
 | [],_=>by simp[PyData.canLayAll0,PyData.depthAll]
 | z ::zs,h=>by
   obtain⟨a,b⟩:=J0p (zs:=zs) fun z' h'=>h z' (List.mem_cons_of_mem _ h')
   have c:=h z List.mem_cons_self
   constructor
   . simp[PyData.canLayAll0,PyData.canLay0,c,a]
   . simp only[List.map_cons,PyData.depthAll,PyData.depth]
     omega
theorem shS{zs:List Str}(h:OkL zs):SeqAt.shaped (rdS zs)=true:=by
 obtain⟨a,b⟩:=J0p h.2
 unfold SeqAt.shaped rdS
 simp only[PyData.canLay0,PyData.depth,a,Bool.and_true,Bool.and_eq_true,decide_eq_true_eq,List.length_map]
 exact⟨trivial,decide_eq_true (by omega)⟩
theorem G1n:∀zs:List Str,PyData.eqv (rdS zs) (rdS zs)=true:=by
 have h:∀zs:List Str,PyData.eqvAll (zs.map PyData.str) (zs.map PyData.str)=true:=fun zs=>by
   induction zs with
   |nil=>simp[PyData.eqvAll]
   |cons z zs ih=>simp[PyData.eqvAll,PyData.eqv,ih]
 intro zs
 simp[rdS,PyData.eqv,h]
theorem J3p{K:Frag}{H:Hp}:∀zs:List Str,B4n K H (zs.map V.str) (zs.map PyData.str)
 | []=> .nil
 |z::zs=> .cons (.str z) (J3p zs)
theorem A5s{K:Frag}{H:Hp}{p:Addr}{zs:List Str}(h:H p=some (.lst (zs.map V.str))):RdD K H (.ref p) (rdS zs):= .lst (SqL.of h) (J3p zs)
theorem J3e:∀z∈A0w,PyData.strOk z=true:=by decide+kernel
noncomputable def A5y (zs:List Str):Prop:=∃p:Str ->Bool,zs=A0w.filter p
theorem A5y.ok{zs:List Str}(h:A5y zs):OkL zs:=by
 obtain⟨p,rfl⟩:=h
 exact⟨Nat.le_trans (List.length_filter_le _ _) (by decide),fun z hz=>J3e z (List.mem_filter.mp hz).1⟩
theorem A5y.len{zs:List Str}(h:A5y zs):zs.length<=7:=by
 obtain⟨p,rfl⟩:=h
 exact List.length_filter_le _ _
theorem A5y.mem{zs:List Str}(h:A5y zs):∀z∈zs,z∈A0w:=by
 obtain⟨p,rfl⟩:=h
 exact fun z hz=>(List.mem_filter.mp hz).1
theorem B9t{zs ws:List Str}(h:A5y zs)(e:∀z,z∈ws↔z∈zs):V1 ws=zs:=by
 obtain⟨p,rfl⟩:=h
 unfold V1
 refine List.filter_congr fun z hz=>?_
 rw[Bool.eq_iff_iff,List.contains_iff_mem,e,List.mem_filter]
 simp[hz]
theorem A8g(zs:List Str):A5y (V1 zs):=⟨_,rfl⟩
theorem D1e:∀i<7,B1d[i]?=some (.str (A0w.getD i "")):=by decide+kernel
theorem G2a:A0w=(List.range 7).map (fun i=>A0w.getD i ""):=by decide+kernel
theorem D1u(f:Nat ->Bool):A5y (((List.range 7).filter f).map fun i=>A0w.getD i ""):=by
 refine⟨fun z=>f (A0w.idxOf z),?_⟩
 conv=>rhs;rw[G2a]
 rw[List.filter_map]
 congr 1
theorem G0j{f:Nat ->Bool}{ys:List V}(hl:ys.length=((List.range 7).filter f).length)(h:∀(j i:Nat) (y:V),((List.range 7).filter f)[j]?=some i ->ys[j]?=some y ->B1d[i]?=some y):
   ys=((((List.range 7).filter f).map fun i=>A0w.getD i "")).map V.str:=by
 apply List.ext_getElem
 . simp[hl]
 intro j h1 h2
 have hj:j<((List.range 7).filter f).length:=by rw[<-hl];exact h1
 have z:=h j _ ys[j] (List.getElem?_eq_getElem hj) (List.getElem?_eq_getElem h1)
 have hm:((List.range 7).filter f)[j]<7:=by
   have:=(List.mem_filter.mp (List.getElem_mem hj)).1
   simpa using this
 rw[D1e _ hm] at z
 simp only[List.getElem_map]
 exact(Option.some.inj z).symm
noncomputable def B4w (k:Str) (s f p:Int):PyData:= .tuple [.str k,.int s,.int f,.int p]
theorem shD{k:Str}(s f p:Int)(h:PyData.strOk k=true):SeqAt.shaped (B4w k s f p)=true:=by
 unfold SeqAt.shaped B4w
 simp[PyData.canLay0,PyData.canLayAll0,PyData.depth,PyData.depthAll,h]
theorem eqD(k:Str)(s f p:Int):PyData.eqv (B4w k s f p) (B4w k s f p)=true:=by
 simp[B4w,PyData.eqv,PyData.eqvAll]
theorem rdD{K:Frag}{H:Hp}{d:Addr}{k:Str}{s f p:Int}(h:H d=some (.tup [.str k,.int s,.int f,.int p])):RdD K H (.ref d) (B4w k s f p):= .tup (SqT.of h) (.cons (.str _) (.cons (.int _) (.cons (.int _) (.cons (.int _) .nil))))
theorem okK(k:Kd):PyData.strOk k.str=true:=by cases k<;>decide+kernel
noncomputable abbrev B7x:Stmt:=(top 97)
theorem G3y{v:Cv}{x1 x2:Nm}(h1:x1.k= .plain)(h2:x2.k= .plain):C5n v x1 x2 (x1.p-x2.p+Z4 x1.f x2.f)=ovR v x1 x2:=by
 have hn:¬(x1.k= .none\/x2.k= .none):=fun z=>by rcases z with z|z<;>simp[h1,h2] at z
 have e1:x1.k≠ .end_:=fun z=>by simp[h1] at z
 have e2:x2.k≠ .end_:=fun z=>by simp[h2] at z
 unfold C5n ovR C4s
 rw[if_neg hn]
 by_cases hf:x2.f=0
 . rw[if_neg (fun z:A2d x1 x2=>z.2.2 hf),if_pos hf]
   unfold G2k
   rw[if_neg e1,if_neg e2]
 rw[if_pos (show A2d x1 x2 from⟨h1,h2,hf⟩),if_neg hf]
 rfl
theorem G2x{v:Cv}{x1 x2:Nm}(h1:x1.k= .plain)(h2:x2.k= .plain):reR v x1 x2 (V8 x1 x2+Z4 (A0n x1 x2).f 1)=rsR v x1 x2:=by
 have hn:¬(x1.k= .none\/x2.k= .none):=fun z=>by rcases z with z|z<;>simp[h1,h2] at z
 have e1:x1.k≠ .end_:=fun z=>by simp[h1] at z
 have e2:x2.k≠ .end_:=fun z=>by simp[h2] at z
 unfold reR rsR
 rw[if_neg hn,if_neg e1]
 by_cases hf:x2.f=0
 . rw[if_pos ⟨h2,hf⟩,if_pos hf]
 rw[if_neg (fun z=>hf z.2),if_neg e2,if_neg hf]
 rfl
structure C6k(K:Frag)(mg:Str ->Option Value)(CT CR:Addr):Prop where
 gT:mg "Trapped"=some (.ref CT)
 gR:mg "ReckonError"=some (.ref CR)
 c:C3k K CT
 sub:subIn K (.ref CT) (.ref CT)=some true
 k:C1b K CT
 dict:∃cd,clsIn K CT=some cd/\cd.hasDict=true
 nosig:findIn K (.ref CT) "signal"=some none
 kR:kitOne K (.ref CT) (.ref CR)=some true
 kv:kitOne K (.ref CT) (.type "ValueError")=some true
noncomputable def C6j (CN CC:Addr) (H:Hp) (c:Addr) (v:Cv) (b:Addr) (xs ys:List Str) (R:Nm×List Str) (Q:VK):Prop:=
 (hit ys R.2=none ->∀l m a' H',B9r CC H c a' ->Exc c H H' ->Y2 CC H' c v a' b (V1 (xs++R.2)) ys ->V6 CN H' m R.1 ->H' l=some (.lst [.ref m]) ->Q (.ref l) H')/\
 (∀z,hit ys R.2=some z ->∀p a' H',B9r CC H c a' ->Exc c H H' ->Y2 CC H' c v a' b (V1 (xs++R.2)) ys ->H' p=some (.tup [.str z,.bl true]) ->Q (.ref p) H')
theorem C6j.ends{CN CC CT:Addr}{H H3:Hp}{c:Addr}{v:Cv}{b:Addr}{xs ys:List Str}{R:Nm×List Str}{Q:VK}(k:C6j CN CC H c v b xs ys R Q)(s:B5 H H3){Ed:XK}
   (he:∀z d H1,(∀p H2,B5 H1 H2 ->H2 p=some (.tup [.str z,.bl true]) ->Q (.ref p) H2) ->H1 d=some (.xd [("signal",.str z)]) ->Ed (.ref CT) (some d) H1):
   A1h CN CC CT H3 c v b xs ys R (fun u H1=>1<=sizeLine/\∀p,H1 p=none ->Q (.ref p) (upd H1 p (.lst [u]))) Ed:=
 ⟨fun hn m a' H' nw x ct num=>⟨C7 (by decide),fun p np=>k.1 hn p m a' _ (C4g s nw) ((Exc.of s).trans (x.trans (.of (B5.upd np)))) (ct.same (B5.upd np)) (num.same (B5.upd np)) A6⟩,
  fun z hz a' d H' nw x ct ed=>he z d H' (fun p H2 s2 ep=>k.2 z hz p a' H2 (C4g s nw) ((Exc.of s).trans (x.trans (.of s2))) (ct.same s2) ep) ed⟩
theorem J3h{v:Cv}{x1 x2:Nm}:due6 v 0 x1 x2=C3a v x1 x2:=by unfold due6;rw[if_neg (by decide),if_pos rfl]
theorem J2t{v:Cv}{x1 x2:Nm}:due6 v 1 x1 x2=B1f v (A0e x1.s x2.s) (x1.f*x2.f) (x1.p+x2.p) (x1.p+x2.p):=by unfold due6;rw[if_neg (by decide),if_neg (by decide),if_pos rfl]
theorem J2b{v:Cv}{x1 x2:Nm}:due6 v 2 x1 x2=ovR v x1 x2:=by unfold due6;rw[if_neg (by decide),if_neg (by decide),if_neg (by decide)]
theorem J0k{v:Cv}{x1 x2:Nm}:due6 v 3 x1 x2=rootR v x1:=by unfold due6;rw[if_pos (by decide),if_pos rfl]
theorem J1u{v:Cv}{x1 x2:Nm}:due6 v 4 x1 x2=rsR v x1 x2:=by unfold due6;rw[if_pos (by decide),if_neg (by decide)]
theorem J3a{x1 x2:Nm}(o1:x1.Ok)(o2:x2.Ok)(h2:x2.k= .plain):D2r x1 x2 (V8 x1 x2+Z4 (A0n x1 x2).f 1):=by
 unfold D2r B4j
 rw[if_neg (fun z=>by simp[h2] at z:¬x2.k= .end_)]
 intro _ hf
 by_cases hz:x2.f=0
 . have e:(A0n x1 x2).f=Z2 x1 (V8 x1 x2):=by
     show Z2 x1 (V8 x1 x2)-A0a x1 x2*Z2 x2 (V8 x1 x2)=_
     unfold A0a Z2
     rw[hz,Int.zero_mul,Int.ediv_zero,Int.zero_mul,Int.sub_zero]
   have f1:x1.f≠0:=fun z=>hf (by rw[e];unfold Z2;rw[z,Int.zero_mul])
   have lb:=B6e x1 x2
   have p10:=o1.p0;have p11:=o1.p1;have p20:=o2.p0;have p21:=o2.p1
   have sz:=A6e (q:=V8 x1 x2) o1 f1 (by omega)
   rw[<-e] at sz
   exact A6h sz.sz A4h _
 obtain⟨g0,g1,_⟩:=B6v o1 o2 hz
 exact A6h (SzL.sz ⟨by omega,g1⟩) A4h _
theorem D1t{X:Cx}{e:Expr}{f:Str}{pos:Pos}{ta:TE}(hK:X.K=K)(he:PE X e ta)(hb:attributeBase e f X.env (eval e X.env)=eval e X.env):PE X (.Attribute e f pos) (G4p K ta f):=by
 subst hK
 exact G3z he hb
noncomputable def C3z (CN CC:Addr):Sp:=fun vs H Q _=>∃c v a b xs ys q1 q2 x1 x2,∃n:Int,vs=[.ref c,.int n,.ref q1,.ref q2]/\Y2 CC H c v a b xs ys/\v.Ok/\xs.length<=900/\V1 xs=xs/\A0k H q1 x1/\A0k H q2 x2/\0<=n/\n<=4/\C6j CN CC H c v b xs ys (due6 v n x1 x2) Q
theorem scLDone:B7 ["_law_context_here","_law_way","_law_one","_law_other","_law_numbers","e"] Q45 (A7 B7x):=scK
theorem D2b{f f1 f2 f3 f4 f5 f6 CN CC CB CT CR:Addr}(D:Def K mg "_law_done" Q45 B7x f fd)(dA:Def K mg "plain" Q29 B7n f1 fd1)(dB:sI P w K mg base 3 f1 fd1 Q29 (C4b K CN CB))
   (dC:Def K mg "plus" Q0 C4m f2 fd2) (dD:sI P w K mg base 8 f2 fd2 Q0 (D2c CN CC CT)) (dE:Def K mg "times" Q0 B8p f3 fd3) (dF:sI P w K mg base 8 f3 fd3 Q0 (C6f CN CC CT))
   (dG:Def K mg "over" Q0 C4k f4 fd4) (dH:sI P w K mg base 7 f4 fd4 Q0 (D2t CN CC CT)) (dJ:Def K mg "root" Q35 C4w f5 fd5) (dL:sI P w K mg base 7 f5 fd5 Q35 (C9v CN CC CT))
   (dM:Def K mg "rest_of" Q0 B1k f6 fd6) (dN:sI P w K mg base 8 f6 fd6 Q0 (D4b CN CC CT)) (R:C6k K mg CT CR) (O:Own mg):sI P w K mg base 9 f fd Q45 (C3z CN CC):=by
 refine D.F.okE scLDone (fun vs H Q E h=>?_) (fun X cdv A outer s H vs Q E hX hr hx h=>?_)
 . obtain⟨c,v,a,b,xs,ys,q1,q2,x1,x2,n,rfl,_⟩:=h
   rfl
 subst hX
 obtain⟨c,v,a,b,xs,ys,q1,q2,x1,x2,n,rfl,hc,ok,lx,ox,a1,a2,n0,n4,k⟩:=h
 refine⟨_,(A4 (D0 (i:=4) scLDone.nd rfl (Or.inl rfl) (U4 (A0 (C4 dA dB hr hx (A0 (D7 D8 (pv 2) A1 (fun _ _=>rfl)) (A0 (D7 D8 (pv 2) A1 (fun _ _=>rfl)) (A0 (D7 D8 (pv 2) A1 (fun _ _=>rfl)) A3)))) (A0 (C4 dA dB hr hx (A0 (D7 D8 (pv 3) A1 (fun _ _=>rfl)) (A0 (D7 D8 (pv 3) A1 (fun _ _=>rfl)) (A0 (D7 D8 (pv 3) A1 (fun _ _=>rfl)) A3)))) A3)))) (A5 (G5p ⟨rfl,rfl,rfl⟩ (by rfl) R.gT R.c scLDone.nd (i:=5) rfl rfl (fun pins Ew EHb hc=>(A4 (D9 (B9 D4 (pv 1) A1 (B8 _)) (A5 (B0 (G4 (A0 (C4 dC dD hr hc (A0 (pv 0) (A0 (D7 (A1g (K:=K) rfl) (pv 4) A1 (fun _ _=>rfl)) (A0 (D7 (A1g (K:=K) rfl) (pv 4) A1 (fun _ _=>rfl)) A3)))) A3)))) C6) (A4 (D9 (B9 D4 (pv 1) A1 (B8 _)) (A5 (B0 (G4 (A0 (C4 dE dF hr hc (A0 (pv 0) (A0 (D7 (A1g (K:=K) rfl) (pv 4) A1 (fun _ _=>rfl)) (A0 (D7 (A1g (K:=K) rfl) (pv 4) A1 (fun _ _=>rfl)) A3)))) A3)))) C6) (A4 (D9 (B9 D4 (pv 1) A1 (B8 _)) (A5 (B0 (G4 (A0 (C4 dG dH hr hc (A0 (pv 0) (A0 (D7 (A1g (K:=K) rfl) (pv 4) A1 (fun _ _=>rfl)) (A0 (D7 (A1g (K:=K) rfl) (pv 4) A1 (fun _ _=>rfl)) A3)))) A3)))) C6) (A5 (B0 (V4 (B9 D4 (pv 1) A1 (B8 _)) (G4 (A0 (C4 dJ dL hr hc (A0 (pv 0) (A0 (D7 (A1g (K:=K) rfl) (pv 4) A1 (fun _ _=>rfl)) A3))) A3)) (G4 (A0 (C4 dM dN hr hc (A0 (pv 0) (A0 (D7 (A1g (K:=K) rfl) (pv 4) A1 (fun _ _=>rfl)) (A0 (D7 (A1g (K:=K) rfl) (pv 4) A1 (fun _ _=>rfl)) A3)))) A3))))))))) (fun pins a=>(A5 (B0 (U4 (A0 (D1t (K:=K) rfl (pv 5) rfl) (A0 (A2s (G4j (K:=K) rfl O.isi (pv 5) (C2g R.gR)) (A1d (G4j (K:=K) rfl O.isi (pv 5) (pty O.ValueError_ (show bootBuiltins "ValueError"=some (.type "ValueError") by decide+kernel))))) A3))))))))),?_⟩
 have z2:2<=sizeLine:=C7 (by decide)
 have o1:=a1.o;have o2:=a2.o
 have h1:=a1.k;have h2:=a2.k
 have f10:=o1.f0;have f11:=o1.f1;have f20:=o2.f0;have f21:=o2.f1
 have e1:=a1.e
 refine⟨_,rfl,q1,_,_,_,rfl,rfl,SqT.of e1,C0 (j:=0) rfl,_,rfl,q1,_,_,_,rfl,rfl,SqT.of e1,C0 (j:=1) rfl,_,rfl,q1,_,_,_,rfl,rfl,SqT.of e1,C0 (j:=2) rfl,_,_,_,rfl,.inl ⟨⟨_,rfl,o1.s0,o1.s1⟩,⟨_,rfl,o1.f0,o1.f1⟩,⟨_,rfl,o1.p0,o1.p1⟩,fun n1 H1 nn1 s1 A3q=>?_⟩⟩
 have e2:=s1 _ _ a2.e
 refine⟨_,rfl,q2,_,_,_,rfl,rfl,SqT.of e2,C0 (j:=0) rfl,_,rfl,q2,_,_,_,rfl,rfl,SqT.of e2,C0 (j:=1) rfl,_,rfl,q2,_,_,_,rfl,rfl,SqT.of e2,C0 (j:=2) rfl,_,_,_,rfl,.inl ⟨⟨_,rfl,o2.s0,o2.s1⟩,⟨_,rfl,o2.f0,o2.f1⟩,⟨_,rfl,o2.p0,o2.p1⟩,fun n2 H2 nn2 s2 A4c=>⟨z2,fun nq nn=>?_⟩⟩⟩
 have u:=B5.upd (o:= .tup [.ref n1,.ref n2]) nn
 have s3:=(s1.trans s2).trans u
 have eq:upd H2 nq (.tup [.ref n1,.ref n2]) nq=some (.tup [.ref n1,.ref n2]):=A6
 have A3q:V6 CN (upd H2 nq (.tup [.ref n1,.ref n2])) n1 x1:=by unfold V6;rw[h1];exact A2b.same A3q (s2.trans u)
 have A4c:V6 CN (upd H2 nq (.tup [.ref n1,.ref n2])) n2 x2:=by unfold V6;rw[h2];exact A2b.same A4c u
 have tw:Two CN (upd H2 nq (.tup [.ref n1,.ref n2])) n1 n2 x1 x2:=⟨A3q,A4c⟩
 generalize upd H2 nq (.tup [.ref n1,.ref n2])=H3 at*
 have hc3:=hc.same s3
 refine⟨_,rfl,rfl,_,rfl,G8 (fun h=>?_) (fun h=>?_)⟩
 . have e:=V.int.inj h
   subst e
   rw[J3h] at k
   refine⟨_,rfl,_,rfl,nq,_,_,_,rfl,rfl,SqT.of eq,C0 (j:=0) rfl,_,rfl,nq,_,_,_,rfl,rfl,SqT.of eq,C0 (j:=1) rfl,c,v,a,b,xs,ys,n1,n2,x1,x2,rfl,hc3,ok,lx,ox,tw,h1,h2,o1,o2,k.ends s3 (fun z d H1 kq ed=>?_)⟩
   refine⟨R.sub,fun x t T nx=>?_⟩
   have u:=B5.upd (o:= .frz (Z0 (.ref CT) t (some d) (.ref T)) (.own x)) nx
   have at2:B4p (upd H1 x (.frz (Z0 (.ref CT) t (some d) (.ref T)) (.own x))) x CT (some d):=⟨_,_,_,A6,fun z hz=>by cases hz;exact⟨_,u _ _ ed⟩⟩
   exact⟨_,rfl,x,CT,_,_,d,_,_,_,rfl,A6,u _ _ ed,R.k,R.dict,R.nosig,rfl,_,rfl,_,_,_,_,true,rfl,rfl,at2.ty R.k,R.kR,_,rfl,Y3 ⟨_,rfl,_,_,_,_,true,rfl,rfl,at2.ty R.k,R.kv,z2,fun p np=>kq p _ (u.trans (B5.upd np)) A6⟩⟩
 refine⟨_,rfl,rfl,_,rfl,G8 (fun h=>?_) (fun h=>?_)⟩
 . have e:=V.int.inj h
   subst e
   rw[J2t] at k
   refine⟨_,rfl,_,rfl,nq,_,_,_,rfl,rfl,SqT.of eq,C0 (j:=0) rfl,_,rfl,nq,_,_,_,rfl,rfl,SqT.of eq,C0 (j:=1) rfl,c,v,a,b,xs,ys,n1,n2,x1,x2,rfl,hc3,ok,lx,ox,tw,h1,h2,o1,o2,k.ends s3 (fun z d H1 kq ed=>?_)⟩
   refine⟨R.sub,fun x t T nx=>?_⟩
   have u:=B5.upd (o:= .frz (Z0 (.ref CT) t (some d) (.ref T)) (.own x)) nx
   have at2:B4p (upd H1 x (.frz (Z0 (.ref CT) t (some d) (.ref T)) (.own x))) x CT (some d):=⟨_,_,_,A6,fun z hz=>by cases hz;exact⟨_,u _ _ ed⟩⟩
   exact⟨_,rfl,x,CT,_,_,d,_,_,_,rfl,A6,u _ _ ed,R.k,R.dict,R.nosig,rfl,_,rfl,_,_,_,_,true,rfl,rfl,at2.ty R.k,R.kR,_,rfl,Y3 ⟨_,rfl,_,_,_,_,true,rfl,rfl,at2.ty R.k,R.kv,z2,fun p np=>kq p _ (u.trans (B5.upd np)) A6⟩⟩
 refine⟨_,rfl,rfl,_,rfl,G8 (fun h=>?_) (fun h=>?_)⟩
 . have e:=V.int.inj h
   subst e
   rw[J2b, <-G3y h1 h2] at k
   refine⟨_,rfl,_,rfl,nq,_,_,_,rfl,rfl,SqT.of eq,C0 (j:=0) rfl,_,rfl,nq,_,_,_,rfl,rfl,SqT.of eq,C0 (j:=1) rfl,c,v,a,b,xs,ys,n1,n2,x1,x2,_,rfl,hc3,ok,lx,ox,tw,o1,o2,fun hq hf=>A6h (A6f f10 hf f11).sz (A6f f20 hq.2.2 f21).sz _,k.ends s3 (fun z d H1 kq ed=>?_)⟩
   refine⟨R.sub,fun x t T nx=>?_⟩
   have u:=B5.upd (o:= .frz (Z0 (.ref CT) t (some d) (.ref T)) (.own x)) nx
   have at2:B4p (upd H1 x (.frz (Z0 (.ref CT) t (some d) (.ref T)) (.own x))) x CT (some d):=⟨_,_,_,A6,fun z hz=>by cases hz;exact⟨_,u _ _ ed⟩⟩
   exact⟨_,rfl,x,CT,_,_,d,_,_,_,rfl,A6,u _ _ ed,R.k,R.dict,R.nosig,rfl,_,rfl,_,_,_,_,true,rfl,rfl,at2.ty R.k,R.kR,_,rfl,Y3 ⟨_,rfl,_,_,_,_,true,rfl,rfl,at2.ty R.k,R.kv,z2,fun p np=>kq p _ (u.trans (B5.upd np)) A6⟩⟩
 refine⟨_,rfl,rfl,_,rfl,G8 (fun h=>?_) (fun h=>?_)⟩
 . have e:=V.int.inj h
   subst e
   rw[J0k] at k
   refine⟨_,rfl,_,rfl,nq,_,_,_,rfl,rfl,SqT.of eq,C0 (j:=0) rfl,c,v,a,b,xs,ys,n1,x1,rfl,hc3,ok,lx,ox,tw.1,h1,o1,k.ends s3 (fun z d H1 kq ed=>?_)⟩
   refine⟨R.sub,fun x t T nx=>?_⟩
   have u:=B5.upd (o:= .frz (Z0 (.ref CT) t (some d) (.ref T)) (.own x)) nx
   have at2:B4p (upd H1 x (.frz (Z0 (.ref CT) t (some d) (.ref T)) (.own x))) x CT (some d):=⟨_,_,_,A6,fun z hz=>by cases hz;exact⟨_,u _ _ ed⟩⟩
   exact⟨_,rfl,x,CT,_,_,d,_,_,_,rfl,A6,u _ _ ed,R.k,R.dict,R.nosig,rfl,_,rfl,_,_,_,_,true,rfl,rfl,at2.ty R.k,R.kR,_,rfl,Y3 ⟨_,rfl,_,_,_,_,true,rfl,rfl,at2.ty R.k,R.kv,z2,fun p np=>kq p _ (u.trans (B5.upd np)) A6⟩⟩
 have h3:n≠3:=fun z=>h (congrArg V.int z)
 have e:n=4:=by
   rename_i g0 g1 g2
   have h0:n≠0:=fun z=>g0 (congrArg V.int z)
   have h1:n≠1:=fun z=>g1 (congrArg V.int z)
   have h2:n≠2:=fun z=>g2 (congrArg V.int z)
   omega
 subst e
 rw[J1u, <-G2x h1 h2] at k
 refine⟨_,rfl,_,rfl,nq,_,_,_,rfl,rfl,SqT.of eq,C0 (j:=0) rfl,_,rfl,nq,_,_,_,rfl,rfl,SqT.of eq,C0 (j:=1) rfl,c,v,a,b,xs,ys,n1,n2,x1,x2,_,rfl,hc3,ok,lx,ox,tw,o1,o2,J3a o1 o2 h2,k.ends s3 (fun z d H1 kq ed=>?_)⟩
 refine⟨R.sub,fun x t T nx=>?_⟩
 have u:=B5.upd (o:= .frz (Z0 (.ref CT) t (some d) (.ref T)) (.own x)) nx
 have at2:B4p (upd H1 x (.frz (Z0 (.ref CT) t (some d) (.ref T)) (.own x))) x CT (some d):=⟨_,_,_,A6,fun z hz=>by cases hz;exact⟨_,u _ _ ed⟩⟩
 exact⟨_,rfl,x,CT,_,_,d,_,_,_,rfl,A6,u _ _ ed,R.k,R.dict,R.nosig,rfl,_,rfl,_,_,_,_,true,rfl,rfl,at2.ty R.k,R.kR,_,rfl,Y3 ⟨_,rfl,_,_,_,_,true,rfl,rfl,at2.ty R.k,R.kv,z2,fun p np=>kq p _ (u.trans (B5.upd np)) A6⟩⟩
noncomputable abbrev C4c:Stmt:=(top 98)
noncomputable abbrev B7s:Stmt:=(top 99)
noncomputable def A6k (c d:Addr) (H H':Hp):Prop:=∀b o,H b=some o ->b≠c ->b≠d ->H' b=some o
theorem A6k.trans{c d:Addr}{H H1 H2:Hp}(a:A6k c d H H1)(b:A6k c d H1 H2):A6k c d H H2:=fun x o h n m=>b x o (a x o h n m) n m
theorem A6k.l{c d:Addr}{H H':Hp}(a:Exc c H H'):A6k c d H H':=fun x o h n _=>a x o h n
theorem A6k.r{c d:Addr}{H H':Hp}(a:Exc d H H'):A6k c d H H':=fun x o h _ n=>a x o h n
theorem A6k.s{c d:Addr}{H H':Hp}(a:B5 H H'):A6k c d H H':=fun x o h _ _=>a x o h
theorem Y2.exc{CC c a b p:Addr}{H H':Hp}{v:Cv}{xs ys:List Str}(h:Y2 CC H c v a b xs ys)(x:Exc p H H')(h1:c≠p)(h2:a≠p)(h3:b≠p):Y2 CC H' c v a b xs ys:=by
 obtain⟨⟨dx,e⟩,ha,hb⟩:=h
 exact⟨⟨dx,x _ _ e h1⟩,x _ _ ha h2,x _ _ hb h3⟩
theorem G6t(up zs:List Str):(A0w.filter fun z=>up.contains z||(V1 zs).contains z)=V1 (up++zs):=by
 unfold V1
 refine List.filter_congr fun z hz=>?_
 rw[Bool.eq_iff_iff]
 simp[List.mem_filter,hz]
theorem C2h{tr zs:List Str}(h:A5y tr):(A0w.filter fun z=>(V1 zs).contains z&&tr.contains z).head?=hit tr zs:=by
 obtain⟨p,rfl⟩:=h
 unfold hit
 rw[<-List.head?_filter,List.filter_filter]
 congr 1
 refine List.filter_congr fun z hz=>?_
 rw[Bool.eq_iff_iff]
 unfold V1
 simp[List.mem_filter,hz]
theorem G0n(z:Str)(zs:List Str):PyData.eqv (rdS (z::zs)) (rdS [])=false:=by
 simp[rdS,PyData.eqv,PyData.eqvAll]
theorem G4c(zs:List Str)(lo hi:Option Int):∃ws:List Str,B8m (zs.map V.str) lo hi=ws.map V.str/\(∀z∈ws,z∈zs)/\ws.length<=zs.length:=by
 refine⟨(zs.drop (HT.sIx zs.length 0 lo)).take (HT.sIx zs.length zs.length hi-HT.sIx zs.length 0 lo),?_,fun z h=>List.mem_of_mem_drop (List.mem_of_mem_take h),?_⟩
 . unfold B8m
   rw[List.length_map,List.map_take,List.map_drop]
 rw[List.length_take,List.length_drop]
 omega
noncomputable def C0z (z:Str):PyData:= .tuple [.str z,.bool true]
theorem shB{z:Str}(h:PyData.strOk z=true):SeqAt.shaped (C0z z)=true:=by
 unfold SeqAt.shaped C0z
 simp[PyData.canLay0,PyData.canLayAll0,PyData.depth,PyData.depthAll,h]
theorem eqB(z:Str):PyData.eqv (C0z z) (C0z z)=true:=by
 simp[C0z,PyData.eqv,PyData.eqvAll]
theorem rdB{K:Frag}{H:Hp}{d:Addr}{z:Str}(h:H d=some (.tup [.str z,.bl true])):RdD K H (.ref d) (C0z z):= .tup (SqT.of h) (.cons (.str _) (.cons (.bl _) .nil))
noncomputable def stK (u t:Addr):List (Key×V):=[(.inr "flags",.ref u),(.inr "traps",.ref t)]
theorem G6e:(¬(("traps":Str)="flags"))/\(¬(("flags":Str)="traps")):=by decide+kernel
theorem G4s(u u' t:Addr):A3r (stK u t) (.inr "flags") (.ref u')=stK u' t:=by
 obtain⟨h1,h2⟩:=G6e
 simp[A3r,stK,h1,h2]
theorem J1k(u t t':Addr):A3r (stK u t) (.inr "traps") (.ref t')=stK u t':=by
 obtain⟨h1,h2⟩:=G6e
 simp[A3r,stK,h1,h2]
theorem J0n(u t:Addr):A7a [] [((.inr "flags":Key),V.ref u),(.inr "traps",.ref t)]=stK u t:=by
 obtain⟨h1,h2⟩:=G6e
 simp[A7a,A3r,stK,h1,h2]
structure Z1(CC:Addr)(H:Hp)(c dd hh:Addr)(v:Cv)(fx fy xs ys:List Str)(L:List V)(a b uu tt:Addr):Prop where
 ct:Y2 CC H c v a b fx fy
 d:H dd=some (.dK (stK uu tt))
 u:H uu=some (.lst (xs.map V.str))
 t:H tt=some (.lst (ys.map V.str))
 h:H hh=some (.lst L)
 ah:a≠hh
 bh:b≠hh
 uh:uu≠hh
 th:tt≠hh
noncomputable def Sit (CC:Addr) (H:Hp) (c d h:Addr) (v:Cv) (xs ys:List Str) (L:List V):Prop:=(∃a b u t,Z1 CC H c d h v xs ys xs ys L a b u t)/\A5y xs/\A5y ys
section
variable{CC:Addr}{H H':Hp}{c d h p q:Addr}{v:Cv}{fx fy xs ys zs gx gy:List Str}{L:List V}{a b u t a' b':Addr}
theorem Z1.same(S:Z1 CC H c d h v fx fy xs ys L a b u t)(s:B5 H H'):Z1 CC H' c d h v fx fy xs ys L a b u t:=⟨S.ct.same s,s _ _ S.d,s _ _ S.u,s _ _ S.t,s _ _ S.h,S.ah,S.bh,S.uh,S.th⟩
theorem Z1.gF(S:Z1 CC H c d h v fx fy xs ys L a b u t):B8u H d (.str "flags") (some (.ref u)):=B8u.k (k:= .inr "flags") S.d
theorem Z1.gT(S:Z1 CC H c d h v fx fy xs ys L a b u t):B8u H d (.str "traps") (some (.ref t)):=B8u.k (k:= .inr "traps") S.d
theorem Z1.ne(S:Z1 CC H c d h v fx fy xs ys L a b u t):c≠d/\a≠d/\b≠d/\u≠d/\t≠d/\h≠d/\u≠c/\t≠c/\h≠c:=by
 obtain⟨⟨dx,e⟩,ha,hb⟩:=S.ct
 exact⟨V7 e S.d (by intro z;cases z),V7 ha S.d (by intro z;cases z),V7 hb S.d (by intro z;cases z),V7 S.u S.d (by intro z;cases z),V7 S.t S.d (by intro z;cases z),V7 S.h S.d (by intro z;cases z),V7 S.u e (by intro z;cases z),V7 S.t e (by intro z;cases z),V7 S.h e (by intro z;cases z)⟩
theorem Z1.off(S:Z1 CC H c d h v fx fy xs ys L a b u t)(x:Exc q H H')(nc:c≠q)(nd:d≠q)(na:a≠q)(nb:b≠q)(nu:u≠q)(nt:t≠q)(nh:h≠q):Z1 CC H' c d h v fx fy xs ys L a b u t:=
 ⟨S.ct.exc x nc na nb,x _ _ S.d nd,x _ _ S.u nu,x _ _ S.t nt,x _ _ S.h nh,S.ah,S.bh,S.uh,S.th⟩
theorem Z1.putF(S:Z1 CC H c d h v fx fy xs ys L a b u t)(e:H p=some (.lst (zs.map V.str)))(n:p≠h):Z1 CC (upd H d (.dK (stK p t))) c d h v fx fy zs ys L a b p t:=by
 obtain⟨n1,n2,n3,n4,n5,n6,_⟩:=S.ne
 have x:Exc d H (upd H d (.dK (stK p t))):=Exc.upd
 exact⟨S.ct.exc x n1 n2 n3,A6,x _ _ e (V7 e S.d (by intro z;cases z)),x _ _ S.t n5,x _ _ S.h n6,S.ah,S.bh,n,S.th⟩
theorem Z1.putT(S:Z1 CC H c d h v fx fy xs ys L a b u t)(e:H p=some (.lst (zs.map V.str)))(n:p≠h):Z1 CC (upd H d (.dK (stK u p))) c d h v fx fy xs zs L a b u p:=by
 obtain⟨n1,n2,n3,n4,n5,n6,_⟩:=S.ne
 have x:Exc d H (upd H d (.dK (stK u p))):=Exc.upd
 exact⟨S.ct.exc x n1 n2 n3,A6,x _ _ S.u n4,x _ _ e (V7 e S.d (by intro z;cases z)),x _ _ S.h n6,S.ah,S.bh,S.uh,n⟩
theorem Z1.ctx(S:Z1 CC H c d h v fx fy xs ys L a b u t)(x:Exc c H H')(ct:Y2 CC H' c v a' b' gx gy)(n1:a'≠h)(n2:b'≠h):Z1 CC H' c d h v gx gy xs ys L a' b' u t:=by
 obtain⟨m1,_,_,_,_,_,m2,m3,m4⟩:=S.ne
 exact⟨ct,x _ _ S.d (Ne.symm m1),x _ _ S.u m2,x _ _ S.t m3,x _ _ S.h m4,n1,n2,S.uh,S.th⟩
end
noncomputable def D1r (CC:Addr):Sp:=fun vs H Q _=>∃c d h v xs ys L,∃n:Int,vs=[.ref c,.ref d,.int n]/\Sit CC H c d h v xs ys L/\∀xs' ys' H',A6k c d H H' ->Sit CC H' c d h v xs' ys' L ->Q .non H'
theorem scLSet:B7 ["_law_context_here","_law_state","_law_cell","_law_handed"] Q46 (A7 C4c):=scK
theorem G2z{f aS CC CB:Addr}(D:Def K mg "_law_set" Q46 C4c f fd)(SG:D4h K mg aS)(C:B0d K mg CC)(ME:Has P w K mg base CC "clear" 1 ["self"] (A7p CC))(MT:Has P w K mg base CC "trap" 2 Q22 (C1z K CC CB))(O:Own mg):
   sI P w K mg base 3 f fd Q46 (D1r CC):=by
 refine D.F.okE scLSet (fun vs H Q E h=>?_) (fun X cdv A outer s H vs Q E hX hr hx h=>?_)
 . obtain⟨c,d,hl,v,xs,ys,L,n,rfl,_⟩:=h
   rfl
 subst hX
 obtain⟨c,d,hl,v,xs,ys,L,n,rfl,⟨⟨a,b,u,t,S⟩,sx,sy⟩,k⟩:=h
 obtain⟨fe,fde,me,ge,be⟩:=ME
 obtain⟨ft,fdt,mt,gt,bt⟩:=MT
 have HU:=hr.units
 refine⟨_,(A4 (B3 (D9 (B9 D4 (A9 U3 (pv 2) A1) A1 (B8 _)) (A4 (B3 (B7z (Nat.lt_of_le_of_lt (Nat.add_le_add_left (by decide) _) HU) (pv 1) C5 (G4 A3) (by rfl))) (A5 (B3 (U9 (A0t (pv 0) C.cl me ge hr be .nil hx))))) C6)) (A5 (B3 (D9 (B9 D4 (A9 U3 (pv 2) A1) A1 (B8 _)) (A4 (B3 (B7z (Nat.lt_of_le_of_lt (Nat.add_le_add_left (by decide) _) HU) (pv 1) C5 (A8w (N:=["_law_k","_law_name"]) (F:=["_law_cell"]) (js:=[2]) (G5.of1 ⟨rfl,by decide+kernel,by decide+kernel,by decide+kernel,by decide+kernel⟩ (by rfl) (by rfl) ⟨_,by rfl⟩ (by rfl) (by rfl)) (.inl hr.hd) rfl (D3w rfl O.enumerate_ (A0 (C2g SG.g) A3)) rfl (fun C s₀ H₀ ex pn h=>G2y (K:=K) (n:=2) rfl h (U8 (U1 (i:=0) (by decide+kernel:(["_law_k","_law_name","_law_cell"]:List Str).Nodup) rfl (Or.inl rfl)) (U8 (U1 (i:=1) (by decide+kernel:(["_law_k","_law_name","_law_cell"]:List Str).Nodup) rfl (Or.inl rfl)) A2x))) (fun C s₀ H₀ ex pn h=>(B9 D4 (A9 U3 (A9 G5u (pv 2) (A9 G9 (pv 0) A1)) A1) A1 (B8 _))) (fun C s₀ H₀ ex pn h=>(pv 1))) (by rfl))) (A4 (B3 (D0 (i:=3) scLSet.nd rfl (Or.inl rfl) (A9 B2t (G8e (A6g (Nat.lt_of_le_of_lt (Nat.add_le_add_left (by decide) _) HU) (pv 1) C5 (fun _ _=>rfl)) (A4z A2c A1)) (B9e G3j (A6g (Nat.lt_of_le_of_lt (Nat.add_le_add_left (by decide) _) HU) (pv 1) C5 (fun _ _=>rfl)) C5m (C4f A1))))) (A4 (B3 (U9 (A8c (pv 0) C.cl mt gt hr bt .nil hx (A0 (pv 3) A3)))) (A5 (B3 (U9 (B3k PySem.F.plainAttrs_list PySem.F.slot_list_clear PySem.F.type_list_clear B4f (pv 3)))))))) C6)))),?_⟩
 have l2:(2:Nat)<sizeLine:=Y8 (by show 2<=1000;decide)
 let I_:L2.St ->L2.Hp ->Prop:=fun σ' H'=>∃xs',A6k c d H H'/\Sit CC H' c d hl v xs' ys L/\σ'=[sr c,sr d,si n,none]
 refine⟨I_,?_,?_⟩
 . refine⟨_,rfl,_,_,rfl,rfl,(by decide:(0:Int)<5),rfl,_,rfl,G8 (fun _=>?_) (fun _=>⟨xs,A6k.s (B5.refl _),⟨⟨a,b,u,t,S⟩,sx,sy⟩,rfl⟩)⟩
   let I_:L2.St ->L2.Hp ->Prop:=fun σ' H'=>∃u',Exc d H H'/\Z1 CC H' c d hl v xs ys [] ys L a b u' t/\σ'=[sr c,sr d,si n,none]
   refine⟨I_,?_,?_⟩
   . refine⟨Nat.zero_le _,fun p np=>⟨_,rfl,d,_,rfl,C3h.k (k:= .inr "flags") ((B5.upd np) _ _ S.d) l2,?_⟩⟩
     rw[G4s]
     exact⟨p,(Exc.of (B5.upd np)).trans Exc.upd,(S.same (B5.upd np)).putF (zs:=[]) A6 (Ne.symm (C9 S.h np)),rfl⟩
   refine L2.hideG fun Z_ z_=>?_
   rintro σ' H1 ⟨u',x1,S1,rfl⟩
   subst z_
   clear I_
   refine⟨_,?_,fun _ _ h=>h⟩
   obtain⟨dx,ec⟩:=S1.ct.ins
   exact⟨_,rfl,c,dx,_,rfl,ec,B7k _ _ _ _ _ _,c,v.r,v.y,v.l,v.m,a,b,_,_,rfl,S1.ct,fun a' H2 x2 na ct=>⟨[],(A6k.r x1).trans (A6k.l x2),⟨⟨a',b,u',t,S1.ctx x2 ct (Ne.symm (C9 S1.h na)) S1.bh⟩,⟨fun _=>false,by simp⟩,sy⟩,rfl⟩⟩
 refine L2.hideG fun Z_ z_=>?_
 rintro σ' H1 ⟨xs1,x1,⟨⟨a1,b1,u1,t1,S1⟩,sx1,_⟩,rfl⟩
 subst z_
 clear I_
 refine⟨_,?_,fun _ _ h=>h⟩
 refine⟨_,rfl,_,_,rfl,rfl,(by decide:(0:Int)<5),rfl,_,rfl,G8 (fun _=>?_) (fun _=>k xs1 ys H1 x1 ⟨⟨a1,b1,u1,t1,S1⟩,sx1,sy⟩)⟩
 let I_:L2.St ->L2.Hp ->Prop:=fun σ' H'=>∃t' zs,A5y zs/\Exc d H1 H'/\Z1 CC H' c d hl v xs1 ys xs1 zs L a1 b1 u1 t'/\σ'=[sr c,sr d,si n,none]
 refine⟨I_,?_,?_⟩
 . refine⟨aS,rfl,⟨_,SG.sq _⟩,C0t (J:=G5j K aS) (n:=7) (fun i=>decide (n/2^((i:Int)+3).toNat % 3=1)) (fun i y _=>B1d[i]?=some y) (by decide) (fun _ _ _ _ _ _ h _ _=>h) (fun i H2 Qy Qn hi sm hy hn=>⟨⟨B1d,_,SG.sq _,D1e i hi⟩,fun x H3 yl=>?_⟩) (fun H2 sm=>⟨B1d,SG.sq _,by decide⟩) (fun D' H' ys' sm nD eD hlen hR=>?_)⟩
   . obtain⟨tt,y,rfl,nt,rfl,hy'⟩:=yl
     have ey:=hy' _ (SG.sq _)
     have ut:=B5.upd (o:= .tup [.int i,y]) nt
     refine⟨tt,_,rfl,SqT.of A6,rfl,_,_,rfl,_,_,rfl,rfl,?_⟩
     refine⟨_,rfl,_,rfl,_,_,rfl,rfl,_,_,rfl,rfl,(by show(0:Int)<=(i:Int)+3;omega),_,_,rfl,rfl,(by decide:(0:Int)<3),rfl,_,rfl,G8 (fun h2=>?_) (fun h2=>?_)⟩
     . exact⟨_,rfl,hy (decide_eq_true (V.int.inj h2)) _ _ ut ey⟩
     . exact hn (decide_eq_false fun e=>h2 (congrArg V.int e)) _ ut
   . obtain⟨zs,hz,rfl⟩:∃zs,A5y zs/\ys'=zs.map V.str:=⟨_,D1u _,G0j hlen hR⟩
     refine⟨_,rfl,d,_,rfl,C3h.k (k:= .inr "traps") (sm _ _ S1.d) l2,?_⟩
     rw[J1k]
     exact⟨D',zs,hz,(Exc.of sm).trans Exc.upd,(S1.same sm).putT eD (Ne.symm (C9 S1.h nD)),rfl⟩
 refine L2.hideG fun Z_ z_=>?_
 rintro σ' H2 ⟨t2,zs,hz,x2,S2,rfl⟩
 subst z_
 clear I_
 let I_:L2.St ->L2.Hp ->Prop:=fun σ' H'=>∃q ws,B5 H2 H'/\H2 q=none/\H' q=some (.lst ((zs.reverse++ws).map V.str))/\(∀z∈ws,z∈zs)/\σ'=[sr c,sr d,si n,sr q]
 refine⟨I_,?_,?_⟩
 . refine⟨_,rfl,d,_,rfl,S2.gT,_,rfl,rfl,t2,_,rfl,SqL.of S2.t,fun p1 n1=>?_⟩
   have u1:=B5.upd (o:= .lst (zs.map V.str).reverse) n1
   refine⟨_,rfl,d,_,rfl,(S2.same u1).gT,_,rfl,t2,_,rfl,SqL.of (u1 _ _ S2.t),fun p2 n2=>?_⟩
   have u2:=B5.upd (o:= .lst (B8m (zs.map V.str) none (some 1))) n2
   obtain⟨ws,ew,hw,lw⟩:=G4c zs none (some 1)
   have lz:=hz.len
   refine⟨p1,p2,_,_,rfl,rfl,u2 _ _ A6,A6,C7 (by rw[List.length_reverse,List.length_map,ew,List.length_map];omega),fun q nq=>⟨q,ws,(u1.trans u2).trans (B5.upd nq),(u1.trans u2).free nq,?_,hw,rfl⟩⟩
   rw[A6,ew,List.map_append,List.map_reverse]
 refine L2.hideG fun Z_ z_=>?_
 rintro σ' H3 ⟨q,ws,s3,nq,eq,hw,rfl⟩
 subst z_
 clear I_
 have S3:=S2.same s3
 let I_:L2.St ->L2.Hp ->Prop:=fun σ' H'=>∃b',Exc c H3 H'/\Z1 CC H' c d hl v xs1 zs xs1 zs L a1 b' u1 t2/\H' q=some (.lst ((zs.reverse++ws).map V.str))/\b'≠q/\σ'=[sr c,sr d,si n,sr q]
 refine⟨I_,?_,?_⟩
 . obtain⟨dx,ec⟩:=S3.ct.ins
   refine⟨_,rfl,c,dx,_,rfl,ec,B9m _ _ _ _ _ _,_,rfl,c,v.r,v.y,v.l,v.m,a1,b1,_,_,_,rfl,S3.ct,.inl ⟨q,zs.reverse++ws,rfl,eq,fun z hm=>?_,fun b' H4 x4 nb ct=>?_⟩⟩
   . rcases List.mem_append.mp hm with m|m
     . exact hz.mem z (List.mem_reverse.mp m)
     . exact hz.mem z (hw z m)
   . have e:V1 (zs.reverse++ws)=zs:=B9t hz fun z=>by
       rw[List.mem_append,List.mem_reverse]
       exact⟨fun m=>m.elim id (hw z),.inl⟩
     rw[e] at ct
     exact⟨b',x4,S3.ctx x4 ct S3.ah (Ne.symm (C9 S3.h nb)),x4 _ _ eq (V7 eq ec (by intro z;cases z)),Ne.symm (C9 eq nb),rfl⟩
 refine L2.hideG fun Z_ z_=>?_
 rintro σ' H4 ⟨b',x4,S4,eq4,nbq,rfl⟩
 subst z_
 clear I_
 refine⟨_,?_,fun _ _ h=>h⟩
 refine⟨_,rfl,.inl ⟨rfl,_,SqL.of eq4⟩,q,_,rfl,rfl,eq4,?_⟩
 have xq:Exc q H4 (upd H4 q (.lst [])):=Exc.upd
 obtain⟨dx,ec⟩:=S2.ct.ins
 refine k xs1 zs _ (fun z o hz0 n1 n2=>?_) ⟨⟨a1,b',u1,t2,S4.off xq (C9 ec nq) (C9 S2.d nq) (C9 S2.ct.ha nq) nbq (C9 S2.u nq) (C9 S2.t nq) (C9 S2.h nq)⟩,sx1,hz⟩
 have e2:=x2 _ _ (x1 z o hz0 n1 n2) n2
 exact xq _ _ (x4 _ _ (s3 _ _ e2) n1) (C9 e2 nq)
noncomputable def C5t (K:Frag) (CN CC:Addr):Sp:=fun vs H Q _=>∃c d h v xs ys zs L a b u t tq lq x w,vs=[.ref c,.ref d,.ref tq,.ref lq,w]/\Z1 CC H c d h v (V1 (xs++zs)) ys xs ys L a b u t/\A5y xs/\A5y ys/\H tq=some (.tup (Nm.vs x))/\H lq=some (.lst ((V1 zs).map V.str))/\
 (hit ys zs=none ->∃l m,w= .ref l/\H l=some (.lst [.ref m])/\V6 CN H m x)/\(∀z,hit ys zs=some z ->∃p,w= .ref p/\H p=some (.tup [.str z,.bl true]))/\
 ∀u' H',Exc d H H' ->Z1 CC H' c d h v (V1 (xs++zs)) ys (V1 (xs++zs)) ys L a b u' t ->Q (.bl true) H'
theorem scLGood:B7 ["_law_context_here","_law_state","_law_due_here","_law_names","_law_found","_law_caught"] Q47 (A7 B7s):=scK
theorem D2m{f f1 aS CC CN CB:Addr}(D:Def K mg "_law_good" Q47 B7s f fd)(dA:Def K mg "told" ["number"] B9w f1 fd1)(dB:sI P w K mg base 2 f1 fd1 ["number"] (C1y K CN CB))(SG:D4h K mg aS)(C:B0d K mg CC)
   (MF:Has P w K mg base CC "flags" 1 ["self"] (A6x CC)) (MT:Has P w K mg base CC "traps" 1 ["self"] (A6z CC)) (T:Kit K) (O:Own mg):sI P w K mg base 3 f fd Q47 (C5t K CN CC):=by
 refine D.F.okE scLGood (fun vs H Q E h=>?_) (fun X cdv A outer s H vs Q E hX hr hx h=>?_)
 . obtain⟨c,d,hl,v,xs,ys,zs,L,a,b,u,t,tq,lq,x,w',rfl,_⟩:=h
   rfl
 subst hX
 obtain⟨c,d,hl,v,xs,ys,zs,L,a,b,u,t,tq,lq,x,w',rfl,S,sx,sy,et,el,hn,hs,k⟩:=h
 obtain⟨ff,fdf,mf,gf,bf⟩:=MF
 obtain⟨ft,fdt,mt,gt,bt⟩:=MT
 have HU:=hr.units
 refine⟨_,(A4 (B3 (B7z (Nat.lt_of_le_of_lt (Nat.add_le_add_left (by decide) _) HU) (pv 1) C5 (A8w (N:=["_law_name"]) (F:=["_law_state","_law_names"]) (js:=[1,3]) (G5.of2 ⟨rfl,by decide+kernel,by decide+kernel,by decide+kernel,by decide+kernel⟩ (by rfl) (by rfl) ⟨_,by rfl⟩ (by rfl) (by rfl) (by rfl) ⟨_,by rfl⟩ (by rfl) (by rfl)) (.inl hr.hd) rfl (C3g (C2g SG.g)) rfl (fun C s₀ H₀ ex pn h=>U1 (i:=0) (by decide+kernel:(Q51:List Str).Nodup) rfl (Or.inl rfl)) (fun C s₀ H₀ ex pn h=>(PW.pt (B0v (B9 (A2q (K:=K) rfl) (pv 0) (A6g (Nat.lt_of_le_of_lt (Nat.add_le_add_left (by decide) _) HU) (pv 1) C5 (fun _ _=>rfl)) (by rfl)) (A5w (B9 (A2q (K:=K) rfl) (pv 0) (pv 2) (by rfl)))))) (fun C s₀ H₀ ex pn h=>(pv 0))) (by rfl))) (A4 (B3 (D1q (i:=5) (N:=["_law_name"]) (F:=["_law_state","_law_names"]) (js:=[1,3]) (G5.of2 ⟨rfl,by decide+kernel,by decide+kernel,by decide+kernel,by decide+kernel⟩ (by rfl) (by rfl) ⟨_,by rfl⟩ (by rfl) (by rfl) (by rfl) ⟨_,by rfl⟩ (by rfl) (by rfl)) (.inl hr.hd) rfl (C3g (C2g SG.g)) rfl (fun C s₀ H₀ ex pn h=>U1 (i:=0) (by decide+kernel:(Q51:List Str).Nodup) rfl (Or.inl rfl)) (fun C s₀ H₀ ex pn h=>(PW.pt (A4b (B9 (A2q (K:=K) rfl) (pv 0) (pv 2) (by rfl)) (A2e (B9 (A2q (K:=K) rfl) (pv 0) (A6g (Nat.lt_of_le_of_lt (Nat.add_le_add_left (by decide) _) HU) (pv 1) C5 (fun _ _=>rfl)) (by rfl)))))) (fun C s₀ H₀ ex pn h=>(pv 0)) scLGood.nd rfl (Or.inl rfl))) (A4 (B3 (D9 (PW.pt (B0v (B9 (B7w hr.units) (A0t (pv 0) C.cl mf gf hr bf .nil hx) (A6g (Nat.lt_of_le_of_lt (Nat.add_le_add_left (by decide) _) HU) (pv 1) C5 (fun _ _=>rfl)) (B8 _)) (A5w (B9 (B7w hr.units) (A0t (pv 0) C.cl mt gt hr bt .nil hx) (A6g (Nat.lt_of_le_of_lt (Nat.add_le_add_left (by decide) _) HU) (pv 1) C5 (fun _ _=>rfl)) (B8 _))))) (A5 (B0 A2a)) C6)) (A4 (B3 (U9 (B3k PySem.F.plainAttrs_list PySem.F.slot_list_clear PySem.F.type_list_clear B4f (A0t (pv 0) C.cl mf gf hr bf .nil hx)))) (A4 (B3 (U9 (B3k PySem.F.plainAttrs_list PySem.F.slot_list_clear PySem.F.type_list_clear B4f (A0t (pv 0) C.cl mt gt hr bt .nil hx)))) (A4 (B3 (D9 (B9 (B7w hr.units) (pv 5) (G4 A3) (B8 _)) (A5 (B0 (G3 (C1m hr.units) (pv 4) (U4 (A0 (D7 A0h (pv 5) A1 (fun _ _=>rfl)) (A0 A2a A3))) (B8 _)))) C6)) (A5 (B0 (A2s (B4v O.isi (pv 4) (pty O.list_ boot_list)) (A1d (G3 (C1m hr.units) (C4 dA dB hr hx (A0 (D7 A0h (pv 4) A1 (fun _ _=>rfl)) A3)) (pv 2) (B8 _)))))))))))),?_⟩
 have l2:(2:Nat)<sizeLine:=Y8 (by show 2<=1000;decide)
 have z2:2<=sizeLine:=C7 (by decide)
 have oy:=sy.ok
 have sF:=A8g (xs++zs)
 have oF:=sF.ok
 obtain⟨dx,ec⟩:=S.ct.ins
 have tyw:∃wa,w'= .ref wa/\wa≠d:=by
   cases e:hit ys zs with
   | none=>
     obtain⟨l,m,rfl,e1,_⟩:=hn e
     exact⟨l,rfl,V7 e1 S.d (by intro z;cases z)⟩
   | some z=>
     obtain⟨p,rfl,e1⟩:=hs z e
     exact⟨p,rfl,V7 e1 S.d (by intro z;cases z)⟩
 obtain⟨wa,rfl,nwd⟩:=tyw
 let I_:L2.St ->L2.Hp ->Prop:=fun σ' H'=>∃u',Exc d H H'/\Z1 CC H' c d hl v (V1 (xs++zs)) ys (V1 (xs++zs)) ys L a b u' t/\σ'=[sr c,sr d,sr tq,sr lq,sr wa,none]
 refine⟨I_,?_,?_⟩
 . refine B4e (zs:=A0w) (f:=fun z=>xs.contains z||(V1 zs).contains z) (σf:=[sr d,sr lq]) SG.sq (by decide) (fun z H' Qb sm q=>?_) (fun z H' Qv q=>⟨_,rfl,q⟩) (fun D' H' sm nD eD=>?_) rfl
   . have q:Qb (xs.contains z||(V1 zs).contains z) H':=q
     have S':=S.same sm
     refine⟨_,rfl,_,rfl,d,_,rfl,S'.gF,u,_,rfl,.inl (SqL.of S'.u),rfl,Y9 _,_,rfl,?_⟩
     rw[if_neg Bool.false_ne_true,A0y]
     cases e:xs.contains z with
     | true=>
       rw[e,Bool.true_or] at q
       exact Y3 q
     | false=>
       rw[e,Bool.false_or] at q
       refine U6 ⟨_,rfl,_,rfl,lq,_,rfl,.inl (SqL.of (sm _ _ el)),rfl,Y9 _,_,rfl,?_⟩
       rw[if_neg Bool.false_ne_true,A0y]
       exact q
   . rw[G6t] at eD
     refine⟨_,rfl,d,_,rfl,C3h.k (k:= .inr "flags") (sm _ _ S.d) l2,?_⟩
     rw[G4s]
     exact⟨D',(Exc.of sm).trans Exc.upd,(S.same sm).putF eD (Ne.symm (C9 S.h nD)),rfl⟩
 refine L2.hideG fun Z_ z_=>?_
 rintro σ' H1 ⟨u',x1,S1,rfl⟩
 subst z_
 clear I_
 have et1:=x1 _ _ et (V7 et S.d (by intro z;cases z))
 have el1:=x1 _ _ el (V7 el S.d (by intro z;cases z))
 let I_:L2.St ->L2.Hp ->Prop:=fun σ' H'=>∃q,B5 H1 H'/\H' q=some (.lst ((A0w.filter fun z=>(V1 zs).contains z&&ys.contains z).map V.str))/\σ'=[sr c,sr d,sr tq,sr lq,sr wa,sr q]
 refine⟨I_,?_,?_⟩
 . refine B4e (zs:=A0w) (f:=fun z=>(V1 zs).contains z&&ys.contains z) (σf:=[sr d,sr lq]) SG.sq (by decide) (fun z H' Qb sm q=>?_) (fun z H' Qv q=>⟨_,rfl,q⟩) (fun D' H' sm nD eD=>?_) rfl
   . have q:Qb ((V1 zs).contains z&&ys.contains z) H':=q
     have S':=S1.same sm
     refine⟨_,rfl,_,rfl,lq,_,rfl,.inl (SqL.of (sm _ _ el1)),rfl,Y9 _,_,rfl,?_⟩
     rw[if_neg Bool.false_ne_true,A0y]
     cases e:(V1 zs).contains z with
     | true=>
       rw[e,Bool.true_and] at q
       refine Y3 ⟨_,rfl,_,rfl,d,_,rfl,S'.gT,t,_,rfl,.inl (SqL.of S'.t),rfl,Y9 _,_,rfl,?_⟩
       rw[if_neg Bool.false_ne_true,A0y]
       exact q
     | false=>
       rw[e,Bool.false_and] at q
       exact U6 q
   . exact⟨D',sm,eD,rfl⟩
 refine L2.hideG fun Z_ z_=>?_
 rintro σ' H2 ⟨cq,s2,ecq,rfl⟩
 subst z_
 clear I_
 have S2:=S1.same s2
 have hc2:=S2.ct
 obtain⟨dx2,ec2⟩:=hc2.ins
 let I_:L2.St ->L2.Hp ->Prop:=fun σ' H'=>B5 H2 H'/\σ'=[sr c,sr d,sr tq,sr lq,sr wa,sr cq]
 refine⟨I_,?_,?_⟩
 . refine⟨_,rfl,c,dx2,_,rfl,ec2,A8n _ _ _ _ _ _,c,v.r,v.y,v.l,v.m,a,b,_,_,rfl,hc2,fun l1 n1=>?_⟩
   have u1:=B5.upd (o:= .lst ((V1 (xs++zs)).map V.str)) n1
   have S3:=S2.same u1
   refine⟨_,rfl,d,_,rfl,S3.gF,rdS (V1 (xs++zs)),rdS (V1 (xs++zs)),A5s A6,A5s S3.u,shS oF,shS oF,_,rfl,?_⟩
   rw[if_pos rfl,G1n]
   refine U6 ⟨_,rfl,c,dx2,_,rfl,u1 _ _ ec2,A8x _ _ _ _ _ _,c,v.r,v.y,v.l,v.m,a,b,_,_,rfl,S3.ct,fun l3 n3=>?_⟩
   have u3:=B5.upd (o:= .lst (ys.map V.str)) n3
   have S4:=S3.same u3
   refine⟨_,rfl,d,_,rfl,S4.gT,rdS ys,rdS ys,A5s A6,A5s S4.t,shS oy,shS oy,_,rfl,?_⟩
   rw[if_pos rfl,G1n]
   exact U6 ⟨u1.trans u3,rfl⟩
 rintro σ' H3 ⟨s3,rfl⟩
 clear I_
 have S3:=S2.same s3
 let I_:L2.St ->L2.Hp ->Prop:=fun σ' H'=>B5 H3 H'/\σ'=[sr c,sr d,sr tq,sr lq,sr wa,sr cq]
 refine⟨I_,?_,?_⟩
 . refine⟨_,rfl,c,dx2,_,rfl,s3 _ _ ec2,A8n _ _ _ _ _ _,c,v.r,v.y,v.l,v.m,a,b,_,_,rfl,S3.ct,fun l1 n1=>⟨.inl ⟨rfl,_,SqL.of A6⟩,l1,_,rfl,rfl,A6,fun z o hz=>?_,rfl⟩⟩
   rw[D5 (C9 hz n1),D5 (C9 hz n1)]
   exact hz
 rintro σ' H4 ⟨s4,rfl⟩
 clear I_
 have S4:=S3.same s4
 let I_:L2.St ->L2.Hp ->Prop:=fun σ' H'=>B5 H4 H'/\σ'=[sr c,sr d,sr tq,sr lq,sr wa,sr cq]
 refine⟨I_,?_,?_⟩
 . refine⟨_,rfl,c,dx2,_,rfl,s4 _ _ (s3 _ _ ec2),A8x _ _ _ _ _ _,c,v.r,v.y,v.l,v.m,a,b,_,_,rfl,S4.ct,fun l1 n1=>⟨.inl ⟨rfl,_,SqL.of A6⟩,l1,_,rfl,rfl,A6,fun z o hz=>?_,rfl⟩⟩
   rw[D5 (C9 hz n1),D5 (C9 hz n1)]
   exact hz
 rintro σ' H5 ⟨s5,rfl⟩
 clear I_
 have sA:=((s2.trans s3).trans s4).trans s5
 have S5:=S4.same s5
 have ecq5:=((s3.trans s4).trans s5) _ _ ecq
 have keep:∀{H':Hp},B5 H5 H' ->Q (.bl true) H':=fun s'=>k u' _ ((x1.trans (.of sA)).trans (.of s')) (S5.same s')
 have hc:=C2h (zs:=zs) sy
 generalize hcl:(A0w.filter fun z=>(V1 zs).contains z&&ys.contains z)=cl at hc ecq5
 have scl:OkL cl:=by rw[<-hcl];exact A5y.ok ⟨_,rfl⟩
 let I_:L2.St ->L2.Hp ->Prop:=fun σ' H'=>B5 H5 H'/\cl=[]/\σ'=[sr c,sr d,sr tq,sr lq,sr wa,sr cq]
 refine⟨I_,?_,?_⟩
 . refine⟨_,rfl,Nat.zero_le _,fun l1 n1=>?_⟩
   have u1:=B5.upd (o:= .lst []) n1
   refine⟨rdS cl,rdS [],A5s (u1 _ _ ecq5),A5s A6,shS scl,shS ⟨by simp,by simp⟩,_,rfl,?_⟩
   rw[if_pos rfl]
   cases cl with
   | nil=>
     rw[G1n]
     exact U6 ⟨u1,rfl,rfl⟩
   | cons z cs=>
     rw[G0n]
     have hz:hit ys zs=some z:=hc.symm
     obtain⟨p,e1,e2⟩:=hs z hz
     obtain rfl:wa=p:=by injection e1
     have e3:=u1 _ _ (sA _ _ (x1 _ _ e2 nwd))
     refine Y3 ⟨_,rfl,_,rfl,cq,_,_,_,rfl,rfl,SqL.of (u1 _ _ ecq5),C0 (j:=0) rfl,z2,fun t1 m1=>?_⟩
     have u2:=B5.upd (o:= .tup [.str z,.bl true]) m1
     have okz:PyData.strOk z=true:=scl.2 z List.mem_cons_self
     refine⟨C0z z,C0z z,rdB (u2 _ _ e3),rdB A6,shB okz,shB okz,?_⟩
     rw[if_neg Bool.false_ne_true,eqB]
     exact keep (u1.trans u2)
 refine L2.hideG fun Z_ z_=>?_
 rintro σ' H6 ⟨s6,rfl,rfl⟩
 subst z_
 clear I_
 have hz:hit ys zs=none:=hc.symm
 obtain⟨l,m,e1,e2,num⟩:=hn hz
 obtain rfl:wa=l:=by injection e1
 have e3:=s6 _ _ (sA _ _ (x1 _ _ e2 nwd))
 obtain⟨dn,en⟩:=num
 have num6:V6 CN H6 m x:=⟨dn,s6 _ _ (sA _ _ (x1 _ _ en (V7 en S.d (by intro z;cases z))))⟩
 have et6:=s6 _ _ (sA _ _ et1)
 refine⟨_,rfl,_,_,_,_,true,rfl,rfl,C0p e3,T.list_list,_,rfl,Y3 ⟨_,rfl,wa,_,_,_,rfl,rfl,SqL.of e3,C0 (j:=0) rfl,_,rfl,.inl ⟨m,_,_,_,_,rfl,num6,fun tt nt=>?_⟩⟩⟩
 have ut:=B5.upd (o:= .tup (Nm.vs x)) nt
 refine⟨_,rfl,B4w x.k.str x.s x.f x.p,B4w x.k.str x.s x.f x.p,rdD A6,rdD (ut _ _ et6),shD _ _ _ (okK x.k),shD _ _ _ (okK x.k),?_⟩
 rw[if_neg Bool.false_ne_true,eqD]
 exact keep (s6.trans ut)
noncomputable abbrev B6t:Stmt:=(top 100)
noncomputable abbrev C9a:Stmt:=(top 76)
theorem J0v{lo c:Int}{n:Nat}{g:TG}{tb:TS}{D:B4x}{σ:L2.St}{H:Hp}(Pv:Nat ->L2.St ->Hp ->Prop)(h0:Pv 0 σ H)
   (hs:∀(i:Nat) σ H,i<n ->Pv i σ H ->g (.int (lo+i*c)) σ H fun σ2 H2=>tb {D with nx:=Pv (i+1),ct:=Pv (i+1),bk:=D.nx} σ2 H2) (hd:∀σ H,Pv n σ H ->D.nx σ H):
   ∃ W:Nat ->Nat ->L2.St ->Hp ->Prop,(∃m,W 0 m σ H)/\∀i m σ H,W i m σ H ->
     ((Itq lo c n).stop i H/\D.nx σ H)\/((Itq lo c n).go i H/\∃N:L2.St ->Hp ->Prop,(∀σ' H',N σ' H' ->∃m',m'<m/\W (i+1) m' σ' H')/\∀x H',(Itq lo c n).yld i H x H' ->g x σ H' fun σ2 H2=>tb {D with nx:=N,ct:=N,bk:=D.nx} σ2 H2):=by
 refine⟨fun i m σ H=>m=n-i/\i<=n/\Pv i σ H,⟨n,by simp,Nat.zero_le _,h0⟩,?_⟩
 rintro i m σ H ⟨rfl,hi,p⟩
 by_cases hlt:i<n
 . refine .inr ⟨hlt,Pv (i+1),fun σ' H' p'=>⟨n-(i+1),by omega,rfl,hlt,p'⟩,fun x H' y=>?_⟩
   obtain⟨rfl,rfl⟩:=y
   exact hs i σ _ hlt p
 have e:i=n:=by omega
 subst e
 exact .inl ⟨Nat.le_refl _,hd σ H p⟩
theorem J7c:∀M:Nat,M<23 ->Builtin.Range.small 2 (M:Int) 2=true/\Builtin.Range.rangeSize 2 (M:Int) 2=((Builtin.Range.rangeSize 2 (M:Int) 2).toNat:Int)/\(Builtin.Range.rangeSize 2 (M:Int) 2).toNat<=10/\Builtin.divisionGoesByPylong ((M:Int)-2) 2=false/\∀i,i<(Builtin.Range.rangeSize 2 (M:Int) 2).toNat ->2+2*i<M:=by decide+kernel
theorem C7s(k s f p:V):(B1b k s f p).lookup ("risen":Str)=none:=by
 unfold B1b
 rw[G2,if_neg (by decide+kernel),G2,if_neg (by decide+kernel),G2,if_neg (by decide+kernel),G2,if_neg (by decide+kernel)]
 rfl
theorem G6k{CN CC:Addr}{H:Hp}{n c:Addr}{x:Nm}{v:Cv}{a b:Addr}{xs ys:List Str}(h:V6 CN H n x)(hc:Y2 CC H c v a b xs ys):n≠c:=by
 rintro rfl
 obtain⟨dx,e⟩:=h
 obtain⟨⟨d0,e0⟩,_,_⟩:=hc
 rw[e] at e0
 injection e0 with e0
 injection e0 with _ _ e0
 have q:=C7s (.str x.k.str) (.int x.s) (.int x.f) (.int x.p)
 rw[e0,A3h] at q
 cases q
theorem D4f{k:Kd}(h:V.str k.str=V.str "plain"):k= .plain:=by
 have h:=V.str.inj h
 cases k with
 |plain=>rfl
 |_=>exact absurd h (by decide+kernel)
noncomputable def G5b (CN:Addr) (H:Hp) (L:List V):Prop:=∀y∈L,∃p n t x,y= .ref p/\H p=some (.tup [.ref n,.ref t])/\V6 CN H n x/\H t=some (.tup (Nm.vs x))
noncomputable def K3 (c d h:Addr) (H H':Hp):Prop:=∀b o,H b=some o ->b≠c ->b≠d ->b≠h ->H' b=some o
structure A9e(CN:Addr)(H1 H:Hp)(c d h hq:Addr)(x:Nm)(L:List V):Prop where
 base:B5 H1 H
 nc:H1 c=none
 nd:H1 d=none
 nh:H1 h=none
 here:A0k H hq x
 held:G5b CN H L
section
variable{CN CC:Addr}{H1 H H':Hp}{c d h hq:Addr}{x:Nm}{v:Cv}{fx fy xs ys:List Str}{L L':List V}{a b u t:Addr}
theorem Z1.tup(S:Z1 CC H c d h v fx fy xs ys L' a b u t)(k:K3 c d h H H'){q:Addr}{zs:List V}(e:H q=some (.tup zs)):H' q=some (.tup zs):=by
 obtain⟨⟨dx,ec⟩,_,_⟩:=S.ct
 exact k _ _ e (V7 e ec (by intro z;cases z)) (V7 e S.d (by intro z;cases z)) (V7 e S.h (by intro z;cases z))
theorem Z1.num(S:Z1 CC H c d h v fx fy xs ys L' a b u t)(k:K3 c d h H H'){n:Addr}{y:Nm}(e:V6 CN H n y):V6 CN H' n y:=by
 have n1:=G6k e S.ct
 obtain⟨dn,en⟩:=e
 exact⟨dn,k _ _ en n1 (V7 en S.d (by intro z;cases z)) (V7 en S.h (by intro z;cases z))⟩
theorem A9e.k3(hd:A9e CN H1 H c d h hq x L)(S:Z1 CC H c d h v fx fy xs ys L' a b u t)(k:K3 c d h H H'):A9e CN H1 H' c d h hq x L where
 base:=fun z o e=>k z o (hd.base z o e) (C9 e hd.nc) (C9 e hd.nd) (C9 e hd.nh)
 nc:=hd.nc
 nd:=hd.nd
 nh:=hd.nh
 here:=⟨S.tup k hd.here.e,hd.here.o,hd.here.k⟩
 held:=fun y hy=>by
   obtain⟨p,n,tt,z,rfl,e1,e2,e3⟩:=hd.held y hy
   exact⟨p,n,tt,z,rfl,S.tup k e1,S.num k e2,S.tup k e3⟩
theorem K3.e2(s:A6k c d H H'):K3 c d h H H':=fun z o e n1 n2 _=>s z o e n1 n2
theorem K3.oc(s:Exc c H H'):K3 c d h H H':=fun z o e n1 _ _=>s z o e n1
theorem K3.od(s:Exc d H H'):K3 c d h H H':=fun z o e _ n2 _=>s z o e n2
theorem K3.oh(s:Exc h H H'):K3 c d h H H':=fun z o e _ _ n3=>s z o e n3
theorem A9e.same(hd:A9e CN H1 H c d h hq x L)(s:B5 H H'):A9e CN H1 H' c d h hq x L:=
 ⟨hd.base.trans s,hd.nc,hd.nd,hd.nh,hd.here.same s,fun y hy=>by
   obtain⟨p,n,tt,z,rfl,e1,e2,e3⟩:=hd.held y hy
   exact⟨p,n,tt,z,rfl,s _ _ e1,e2.same s,s _ _ e3⟩⟩
theorem Z1.app(S:Z1 CC H c d h v fx fy xs ys L a b u t)(L':List V):Z1 CC (upd H h (.lst L')) c d h v fx fy xs ys L' a b u t:=by
 obtain⟨_,_,_,_,_,n6,_,_,n9⟩:=S.ne
 have x:Exc h H (upd H h (.lst L')):=Exc.upd
 exact⟨S.ct.exc x (Ne.symm n9) S.ah S.bh,x _ _ S.d (Ne.symm n6),x _ _ S.u S.uh,x _ _ S.t S.th,A6,S.ah,S.bh,S.uh,S.th⟩
end
noncomputable def B8c (CN:Addr) (H:Hp) (w:Addr) (x:Nm) (g:Option Str):Prop:=(g=none/\∃m,H w=some (.lst [.ref m])/\V6 CN H m x)\/∃z,g=some z/\H w=some (.tup [.str z,.bl true])
noncomputable def C6e (K:Frag):Sp:=fun vs H Q _=>∃a ns,vs=[.ref a]/\(ns:List Int).length<=63/\SqL K H a (ns.map V.int)/\∀H',Q (.bl true) H'
theorem scLaw:B7 ["_law_script","_law_frame_here","_law_context_here","_law_state","_law_here","_law_held","_law_k","_law_cell","_law_other","_law_due_here","_law_names","_law_found"] ["_law_script"] (A7 B6t):=scK
theorem G6q{f f1 f2 f3 f4 f5 f6 f7 f8 f9 g1 CC CN CB:Addr}(D:Def K mg "law" ["_law_script"] B6t f fd)
   (dA:Def K mg "_law_cell_at" Q32 C4t f1 fd1) (dB:sI P w K mg base 1 f1 fd1 Q32 (D0c K)) (dC:Def K mg "_law_mixed" Q15 A9n f2 fd2) (dD:sI P w K mg base 1 f2 fd2 Q15 B1q)
   (dG:Def K mg "_law_frame" ["_law_cell"] B1n f3 fd3) (dH:sI P w K mg base 1 f3 fd3 ["_law_cell"] B8y) (dE:Def K mg "_law_plain" Q16 B1u f4 fd4) (dF:sI P w K mg base 3 f4 fd4 Q16 C0e)
   (dJ:Def K mg "_law_context" Q33 C5v f5 fd5) (dL:sI P w K mg base 5 f5 fd5 Q33 (D0g CC)) (dM:Def K mg "_law_due" Q44 C3u f6 fd6) (dN:sI P w K mg base 6 f6 fd6 Q44 D3f)
   (dP:Def K mg "_law_done" Q45 B7x f7 fd7) (dQ:sI P w K mg base 9 f7 fd7 Q45 (C3z CN CC)) (dS:Def K mg "_law_set" Q46 C4c f8 fd8) (dU:sI P w K mg base 3 f8 fd8 Q46 (D1r CC))
   (dW:Def K mg "_law_good" Q47 B7s g1 gd1) (dX:sI P w K mg base 3 g1 gd1 Q47 (C5t K CN CC)) (dY:Def K mg "told" ["number"] B9w f9 fd9) (dZ:sI P w K mg base 2 f9 fd9 ["number"] (C1y K CN CB)) (T:Kit K) (O:Own mg):sI P w K mg base 10 f fd ["_law_script"] (C6e K):=by
 refine D.F.okE scLaw (fun vs H Q E h=>?_) (fun X cdv A outer s H vs Q E hX hr hx h=>?_)
 . obtain⟨a,ns,rfl,_⟩:=h
   rfl
 subst hX
 obtain⟨sc,ns,rfl,n63,hS,kk⟩:=h
 refine⟨_,(A4 (B3 (D0 (i:=1) scLaw.nd rfl (Or.inl rfl) (C4 dG dH hr hx (A0 (C4 dC dD hr hx (A0 (C4 dA dB hr hx (A0 (pv 0) (A0 A1 A3))) (A0 A1 A3))) A3)))) (A4 (B3 (D0 (i:=2) scLaw.nd rfl (Or.inl rfl) (C4 dJ dL hr hx (A0 (pv 1) A3)))) (A4 (B3 (D0 (i:=3) scLaw.nd rfl (Or.inl rfl) (G2t (B9j C5 (G4 A3) (B9j C5 (G4 A3) G0s)) rfl rfl (by simp) (by decide)))) (A4 (B3 (D0 (i:=4) scLaw.nd rfl (Or.inl rfl) (C4 dE dF hr hx (A0 (C4 dA dB hr hx (A0 (pv 0) (A0 A1 A3))) (A0 A1 A3))))) (A4 (B3 (D0 (i:=5) scLaw.nd rfl (Or.inl rfl) (G4 A3))) (A4 (B3 (A9u PassesOwn.leaving rfl (C8u rfl O.range_ (A0 A1 (A0 (G7 (A0g rfl) (by rfl) O.min_ boot_min (A0 A1 (A0 (G7 A9a (by rfl) O.len_ PySem.boot_len (A0 (pv 0) A3)) A3))) (A0 A1 A3)))) (U1 (i:=6) scLaw.nd rfl (Or.inl rfl)) (A4 (B3 (D0 (i:=7) scLaw.nd rfl (Or.inl rfl) (C4 dC dD hr hx (A0 (C4 dA dB hr hx (A0 (pv 0) (A0 (A9 G9 (pv 6) A1) A3))) (A0 (pv 6) A3))))) (A4 (B3 (U9 (C4 dS dU hr hx (A0 (pv 2) (A0 (pv 3) (A0 (A9 D6 (pv 7) A1) A3)))))) (A4 (B3 (D0 (i:=8) scLaw.nd rfl (Or.inl rfl) (C4 dE dF hr hx (A0 (D7 A0h (pv 0) (pv 6) (fun _ _=>rfl)) (A0 A1 A3))))) (A4 (B3 (A7j (C4 dM dN hr hx (A0 (pv 1) (A0 (A9 U3 (pv 7) A1) (A0 (pv 4) (A0 (pv 8) A3))))) (A7b rfl (U8 (U1 (i:=9) scLaw.nd rfl (Or.inl rfl)) (U8 (U1 (i:=10) scLaw.nd rfl (Or.inl rfl)) A2x))))) (A4 (B3 (D0 (i:=11) scLaw.nd rfl (Or.inl rfl) (C4 dP dQ hr hx (A0 (pv 2) (A0 (A9 U3 (pv 7) A1) (A0 (pv 4) (A0 (pv 8) A3))))))) (A4 (B3 (D9 (A3c (V5 (C4 dW dX hr hx (A0 (pv 2) (A0 (pv 3) (A0 (pv 9) (A0 (pv 10) (A0 (pv 11) A3)))))))) (A5 (B0 A2a)) C6)) (A4 (B3 (D9 (V5 (B4v O.isi (pv 11) (pty O.list_ boot_list))) (A5 (B3 (U9 (J3g PySem.F.plainAttrs_list PySem.F.slot_list_append PySem.F.type_list_append A9j (pv 5) (A0 (U4 (A0 (D7 A0h (pv 11) A1 (fun _ _=>rfl)) (A0 (pv 9) A3))) A3))))) C6)) (A4 (B3 (D0 (i:=4) scLaw.nd rfl (Or.inl rfl) (pv 8))) (A5 (B3 (D9 (PW.pt (A4b (V5 (B4v O.isi (pv 11) (pty O.list_ boot_list))) (A2e (B9 D4 (D7 D8 (pv 9) A1 (fun _ _=>rfl)) C5 (B8 _))))) (A5 (B3 (D0 (i:=4) scLaw.nd rfl (Or.inl rfl) (B9e G6x (pv 9) (C4f A1) C5m)))) C6))))))))))))) (A5 (B0 (G3 (C1m hr.units) (A8w (N:=["_law_pair"]) (F:=[]) (js:=[]) (G5.of0 ⟨rfl,by decide+kernel,by decide+kernel,by decide+kernel,by decide+kernel⟩ (by rfl)) (.inl hr.hd) rfl (A9c (pv 5)) rfl (fun C s₀ H₀ ex pn h=>U1 (i:=0) (by decide+kernel:(["_law_pair"]:List Str).Nodup) rfl (Or.inl rfl)) (fun C s₀ H₀ ex pn h=>(B9 (G3g (K:=K) rfl hr.units) (G7p dY dZ hr (A0 (D7 (A1g (K:=K) rfl) (pv 0) A1 (fun _ _=>rfl)) A3)) (D7 (A1g (K:=K) rfl) (pv 0) A1 (fun _ _=>rfl)) (B8 _))) (fun C s₀ H₀ ex pn h=>(pv 0))) (G4 A3) (B8 _)))))))))),?_⟩
 have z2:2<=sizeLine:=C7 (by decide)
 have d5:=dv (n:=5) (by decide) (by decide+kernel)
 let I_:L2.St ->L2.Hp ->Prop:=fun σ' H'=>∃fq v,B5 H H'/\B8v H' fq v/\σ'=[sr sc,sr fq,none,none,none,none,none,none,none,none,none,none]
 refine⟨I_,?_,?_⟩
 . exact⟨_,rfl,sc,ns,0,rfl,hS,by decide,fun c0=>⟨c0,0,rfl,by decide,by decide,fun m m0 _=>⟨m,rfl,m0,fun r y l m q H' fo s' e=>⟨q,⟨r,y,l,m⟩,s',⟨e,fo⟩,rfl⟩⟩⟩⟩
 refine L2.hideG fun Z_ z_=>?_
 rintro σ' H1 ⟨fq,v,s1,fr,rfl⟩
 subst z_
 clear I_
 have hS1:=s1.seq hS
 have ok:=fr.cv
 let I_:L2.St ->L2.Hp ->Prop:=fun σ' H'=>∃c a b,B5 H1 H'/\H1 c=none/\Y2 CC H' c v a b [] []/\σ'=[sr sc,sr fq,sr c,none,none,none,none,none,none,none,none,none]
 refine⟨I_,?_,?_⟩
 . exact⟨_,rfl,fq,v.r,v.y,v.l,v.m,rfl,fr.e,fr.ok,fun c a b H' nc s' ct=>⟨c,a,b,s',nc,ct,rfl⟩⟩
 refine L2.hideG fun Z_ z_=>?_
 rintro σ' H2 ⟨c,a,b,s2,nc,ct2,rfl⟩
 subst z_
 clear I_
 let I_:L2.St ->L2.Hp ->Prop:=fun σ' H'=>∃d u t,B5 H2 H'/\H2 d=none/\H' d=some (.dK (stK u t))/\H' u=some (.lst [])/\H' t=some (.lst [])/\σ'=[sr sc,sr fq,sr c,sr d,none,none,none,none,none,none,none,none]
 refine⟨I_,?_,?_⟩
 . intro d nd
   refine⟨Nat.zero_le _,fun u nu=>⟨Nat.zero_le _,fun t nt=>?_⟩⟩
   have ud:=B5.upd (o:= .dK []) nd
   have uu:=B5.upd (o:= .lst []) nu
   have ut:=B5.upd (o:= .lst []) nt
   have ed:=ut _ _ (uu _ _ (A6 (H:=H2) (a:=d) (o:= .dK [])))
   refine⟨ed,[(.inr "flags",.ref u),(.inr "traps",.ref t)],rfl,by show 2<=15;decide,?_⟩
   rw[J0n]
   have eu:=ut _ _ (A6 (H:=upd H2 d (.dK [])) (a:=u) (o:= .lst []))
   have et:upd (upd (upd H2 d (.dK [])) u (.lst [])) t (.lst []) t=some (.lst []):=A6
   refine⟨d,u,t,fun z o e=>?_,nd,A6,?_,?_,rfl⟩
   . rw[D5 (C9 e nd)]
     exact ut _ _ (uu _ _ (ud _ _ e))
   . rw[D5 (V7 eu ed (by intro z;cases z))]
     exact eu
   . rw[D5 (V7 et ed (by intro z;cases z))]
     exact et
 refine L2.hideG fun Z_ z_=>?_
 rintro σ' H3 ⟨d,u,t,s3,nd,ed,eu,et,rfl⟩
 subst z_
 clear I_
 let I_:L2.St ->L2.Hp ->Prop:=fun σ' H'=>∃hq x,B5 H3 H'/\A0k H' hq x/\σ'=[sr sc,sr fq,sr c,sr d,sr hq,none,none,none,none,none,none,none]
 refine⟨I_,?_,?_⟩
 . exact⟨_,rfl,sc,ns,1,rfl,(s2.trans s3).seq hS1,by decide,fun c1=>⟨c1,60,rfl,by decide,by decide,fun x q H' kx ox _ s' e=>⟨q,x,s',⟨e,ox,kx⟩,rfl⟩⟩⟩
 refine L2.hideG fun Z_ z_=>?_
 rintro σ' H4 ⟨hq,x,s4,px,rfl⟩
 subst z_
 clear I_
 let I_:L2.St ->L2.Hp ->Prop:=fun σ' H'=>∃hl,A9e CN H1 H' c d hl hq x []/\Z1 CC H' c d hl v [] [] [] [] [] a b u t/\σ'=[sr sc,sr fq,sr c,sr d,sr hq,sr hl,none,none,none,none,none,none]
 refine⟨I_,?_,?_⟩
 . refine⟨Nat.zero_le _,fun hl nh=>?_⟩
   have uh:=B5.upd (o:= .lst []) nh
   have sB:=(s3.trans s4).trans uh
   have ct:=ct2.same sB
   exact⟨hl,⟨s2.trans sB,nc,s2.free nd,(s2.trans (s3.trans s4)).free nh,px.same uh,fun y hy=>by cases hy⟩,⟨ct,uh _ _ (s4 _ _ ed),uh _ _ (s4 _ _ eu),uh _ _ (s4 _ _ et),A6,C9 ((s3.trans s4) _ _ ct2.ha) nh,C9 ((s3.trans s4) _ _ ct2.hb) nh,C9 (s4 _ _ eu) nh,C9 (s4 _ _ et) nh⟩,rfl⟩
 refine L2.hideG fun Z_ z_=>?_
 rintro σ' H5 ⟨hl,hd0,S0,rfl⟩
 subst z_
 clear I_
 clear ct2 s3 s4 px eu et ed nd
 let I_:L2.St ->L2.Hp ->Prop:=fun σ' H'=>∃hq x L xs ys k6 k7 k8 k9 k10 k11,A9e CN H1 H' c d hl hq x L/\Sit CC H' c d hl v xs ys L/\L.length<=10/\σ'=[sr sc,sr fq,sr c,sr d,sr hq,sr hl,k6,k7,k8,k9,k10,k11]
 refine⟨I_,?_,?_⟩
 . obtain ⟨M,hM,hM2,eM⟩:∃M:Nat,M<23/\M<=ns.length/\(if((ns.map V.int).length:Int)<22 then((ns.map V.int).length:Int) else 22)=(M:Int):=by
     rw[List.length_map]
     by_cases h:(ns.length:Int)<22
     . exact⟨ns.length,by omega,Nat.le_refl _,by rw[if_pos h]⟩
     . exact⟨22,by decide,by omega,by rw[if_neg h];rfl⟩
   obtain⟨r1,r2,r3,r4,r5⟩:=J7c M hM
   refine⟨_,rfl,sc,_,rfl,.inl (hd0.base.seq hS1),_,_,rfl,2,_,2,(Builtin.Range.rangeSize 2 (M:Int) 2).toNat,rfl,by decide,?_⟩
   rw[eM]
   refine⟨r4,r1,r2,?_⟩
   generalize (Builtin.Range.rangeSize 2 (M:Int) 2).toNat=N at r3 r5
   refine J0v (fun i σ' H'=>∃hq x L xs ys k6 k7 k8 k9 k10 k11,A9e CN H1 H' c d hl hq x L/\Sit CC H' c d hl v xs ys L/\L.length<=i/\σ'=[sr sc,sr fq,sr c,sr d,sr hq,sr hl,k6,k7,k8,k9,k10,k11]) ?_ ?_ ?_
   . exact⟨hq,x,[],[],[],_,_,_,_,_,_,hd0,⟨⟨a,b,u,t,S0⟩,⟨fun _=>false,by simp⟩,⟨fun _=>false,by simp⟩⟩,Nat.le_refl _,rfl⟩
   . rintro i σ' H6 hi ⟨hq,x,L,xs,ys,k6,k7,k8,k9,k10,k11,hd,⟨⟨a,b,u,t,S⟩,sx,sy⟩,lL,rfl⟩
     have hk:=r5 i hi
     have ek:(2:Int)+(i:Int)*2=((2+2*i:Nat):Int):=by omega
     rw[ek]
     generalize hj:2+2*i=j at hk ek
     have jlt:j<ns.length:=by omega
     let I_:L2.St ->L2.Hp ->Prop:=fun σ' H'=>∃m:Int,H'=H6/\0<=m/\σ'=[sr sc,sr fq,sr c,sr d,sr hq,sr hl,si (j:Int),si m,k8,k9,k10,k11]
     refine⟨I_,?_,?_⟩
     . exact⟨_,rfl,_,rfl,_,_,rfl,rfl,sc,ns,(j:Int)+1,rfl,hd.base.seq hS1,by omega,fun c0=>⟨_,rfl,c0,(j:Int),rfl,by omega,by omega,fun m m0 _=>⟨m,rfl,m0,rfl⟩⟩⟩
     refine L2.hideG fun Z_ z_=>?_
     rintro σ' H7 ⟨m,rfl,m0,rfl⟩
     subst z_
     clear I_
     have w0:0<=m % 5:=Int.emod_nonneg _ (by decide)
     have w4:m % 5<=4:=by have:=Int.emod_lt_of_pos m (show(0:Int)<5 by decide);omega
     let I_:L2.St ->L2.Hp ->Prop:=fun σ' H'=>∃xs ys,A9e CN H1 H' c d hl hq x L/\Sit CC H' c d hl v xs ys L/\σ'=[sr sc,sr fq,sr c,sr d,sr hq,sr hl,si (j:Int),si m,k8,k9,k10,k11]
     refine⟨I_,?_,?_⟩
     . exact⟨_,rfl,_,rfl,_,rfl,_,_,rfl,rfl,d5,c,d,hl,v,xs,ys,L,_,rfl,⟨⟨a,b,u,t,S⟩,sx,sy⟩,fun xs' ys' H' x' S'=>⟨xs',ys',hd.k3 S (K3.e2 x'),S',rfl⟩⟩
     clear S sx sy hd a b u t xs ys
     refine L2.hideG fun Z_ z_=>?_
     rintro σ' H8 ⟨xs,ys,hd,⟨⟨a,b,u,t,S⟩,sx,sy⟩,rfl⟩
     subst z_
     clear I_
     let I_:L2.St ->L2.Hp ->Prop:=fun σ' H'=>∃oq y,B5 H8 H'/\A0k H' oq y/\σ'=[sr sc,sr fq,sr c,sr d,sr hq,sr hl,si (j:Int),si m,sr oq,k9,k10,k11]
     refine⟨I_,?_,?_⟩
     . exact⟨_,rfl,_,rfl,sc,_,_,_,rfl,rfl,hd.base.seq hS1,C0 (v:=V.int ns[j]) (by simp[jlt]),_,60,rfl,by decide,by decide,fun y q H' ky oy _ s' e=>⟨q,y,s',⟨e,oy,ky⟩,rfl⟩⟩
     refine L2.hideG fun Z_ z_=>?_
     rintro σ' H9 ⟨oq,y,s9,py,rfl⟩
     subst z_
     clear I_
     have hd9:=hd.same s9
     have S9:=S.same s9
     have fr9:=fr.same hd9.base
     have dok:(due6 v (m % 5) x y).1.k= .plain ->(due6 v (m % 5) x y).1.Ok:=D9x ok hd9.here.o py.o
     let I_:L2.St ->L2.Hp ->Prop:=fun σ' H'=>∃tq lq,B5 H9 H'/\H' tq=some (.tup (due6 v (m % 5) x y).1.vs)/\H' lq=some (.lst ((V1 (due6 v (m % 5) x y).2).map V.str))/\σ'=[sr sc,sr fq,sr c,sr d,sr hq,sr hl,si (j:Int),si m,sr oq,sr tq,sr lq,k11]
     refine⟨I_,?_,?_⟩
     . refine⟨_,rfl,_,rfl,_,_,rfl,rfl,(by decide:(0:Int)<5),_,rfl,_,rfl,fq,v,hq,oq,x,y,_,rfl,fr9,hd9.here,py,w0,w4,fun q H' s' du=>?_⟩
       obtain⟨tq,lq,e1,e2,e3⟩:=du
       exact⟨q,_,rfl,SqT.of e1,rfl,_,_,rfl,_,_,rfl,rfl,tq,lq,s',e2,e3,rfl⟩
     refine L2.hideG fun Z_ z_=>?_
     rintro σ' H10 ⟨tq,lq,s10,et,el,rfl⟩
     subst z_
     clear I_
     have hd10:=hd9.same s10
     have S10:=S9.same s10
     have py10:=py.same s10
     obtain⟨R,hR⟩:∃R,due6 v (m % 5) x y=R:=⟨_,rfl⟩
     rw[hR] at et el dok
     obtain⟨dx,ec⟩:=S10.ct.ins
     let I_:L2.St ->L2.Hp ->Prop:=fun σ' H'=>∃wa a,A9e CN H1 H' c d hl hq x L/\Z1 CC H' c d hl v (V1 (xs++R.2)) ys xs ys L a b u t/\A0k H' oq y/\H' tq=some (.tup R.1.vs)/\H' lq=some (.lst ((V1 R.2).map V.str))/\B8c CN H' wa R.1 (hit ys R.2)/\σ'=[sr sc,sr fq,sr c,sr d,sr hq,sr hl,si (j:Int),si m,sr oq,sr tq,sr lq,sr wa]
     refine⟨I_,?_,?_⟩
     . refine⟨_,rfl,_,rfl,_,_,rfl,rfl,(by decide:(0:Int)<5),_,rfl,_,rfl,c,v,a,b,xs,ys,hq,oq,x,y,_,rfl,S10.ct,ok,by have:=sx.len;omega,B9t sx fun z=>Iff.rfl,hd10.here,py10,w0,w4,?_⟩
       show C6j CN CC H10 c v b xs ys (due6 v (m % 5) x y) _
       rw[hR]
       have nh:H10 hl≠none:=by
         rw[S10.h]
         intro z
         cases z
       refine⟨fun hn l n a' H' nw x' ct num el'=>?_,fun z hz p a' H' nw x' ct ep=>?_⟩
       . exact⟨l,a',hd10.k3 S10 (K3.oc x'),S10.ctx x' ct (nw hl nh ⟨_,_,_,_,_,S10.ct,S10.ah⟩) S10.bh,⟨S10.tup (K3.oc x') py10.e,py10.o,py10.k⟩,S10.tup (K3.oc x') et,x' _ _ el (V7 el ec (by intro z;cases z)),.inl ⟨hn,n,el',num⟩,rfl⟩
       . exact⟨p,a',hd10.k3 S10 (K3.oc x'),S10.ctx x' ct (nw hl nh ⟨_,_,_,_,_,S10.ct,S10.ah⟩) S10.bh,⟨S10.tup (K3.oc x') py10.e,py10.o,py10.k⟩,S10.tup (K3.oc x') et,x' _ _ el (V7 el ec (by intro z;cases z)),.inr ⟨z,hz,ep⟩,rfl⟩
     clear hd10 S10 py10 et el ec hd9 S9 py hd S
     refine L2.hideG fun Z_ z_=>?_
     rintro σ' H11 ⟨wa,a',hd,S,py,et,el,fo,rfl⟩
     subst z_
     clear I_
     let I_:L2.St ->L2.Hp ->Prop:=fun σ' H'=>∃u,A9e CN H1 H' c d hl hq x L/\Z1 CC H' c d hl v (V1 (xs++R.2)) ys (V1 (xs++R.2)) ys L a' b u t/\A0k H' oq y/\H' tq=some (.tup R.1.vs)/\B8c CN H' wa R.1 (hit ys R.2)/\σ'=[sr sc,sr fq,sr c,sr d,sr hq,sr hl,si (j:Int),si m,sr oq,sr tq,sr lq,sr wa]
     refine⟨I_,?_,?_⟩
     . refine⟨_,rfl,_,rfl,_,rfl,_,rfl,_,rfl,c,d,hl,v,xs,ys,R.2,L,a',b,u,t,tq,lq,R.1,.ref wa,rfl,S,sx,sy,et,el,fun hn=>?_,fun z hz=>?_,fun u' H' x' S'=>⟨_,rfl,U6 ⟨u',hd.k3 S (K3.od x'),S',⟨S.tup (K3.od x') py.e,py.o,py.k⟩,S.tup (K3.od x') et,?_,rfl⟩⟩⟩
       . rcases fo with⟨_,m',e,num⟩|⟨z,hz,_⟩
         . exact⟨wa,m',rfl,e,num⟩
         . rw[hn] at hz
           cases hz
       . rcases fo with⟨h0,_⟩|⟨z',hz',e⟩
         . rw[hz] at h0
           cases h0
         . rw[hz] at hz'
           cases hz'
           exact⟨wa,rfl,e⟩
       . rcases fo with⟨h0,m',e,num⟩|⟨z,hz,e⟩
         . exact .inl ⟨h0,m',x' _ _ e (V7 e S.d (by intro z;cases z)),S.num (K3.od x') num⟩
         . exact .inr ⟨z,hz,S.tup (K3.od x') e⟩
     clear hd S py et el fo u
     refine L2.hideG fun Z_ z_=>?_
     rintro σ' H12 ⟨u,hd,S,py,et,fo,rfl⟩
     subst z_
     clear I_
     let I_:L2.St ->L2.Hp ->Prop:=fun σ' H'=>∃L',A9e CN H1 H' c d hl hq x L'/\Z1 CC H' c d hl v (V1 (xs++R.2)) ys (V1 (xs++R.2)) ys L' a' b u t/\L'.length<=i+1/\A0k H' oq y/\H' tq=some (.tup R.1.vs)/\B8c CN H' wa R.1 (hit ys R.2)/\σ'=[sr sc,sr fq,sr c,sr d,sr hq,sr hl,si (j:Int),si m,sr oq,sr tq,sr lq,sr wa]
     refine⟨I_,?_,?_⟩
     . rcases fo with⟨h0,m',e,num⟩|⟨z,hz,e⟩
       . refine⟨_,rfl,_,_,_,_,true,rfl,rfl,C0p e,T.list_list,_,rfl,Y3 ?_⟩
         refine⟨_,?_,fun _ _ h=>h⟩
         refine⟨_,rfl,.inl ⟨rfl,_,SqL.of S.h⟩,_,rfl,wa,_,_,_,rfl,rfl,SqL.of e,C0 (j:=0) rfl,_,rfl,z2,fun p np=>?_⟩
         have up:=B5.upd (o:= .tup [.ref m',.ref tq]) np
         have S':=S.same up
         have hd':=hd.same up
         have nwh:wa≠hl:=by
           rintro rfl
           have q:=S.h
           rw[e] at q
           injection q with q
           injection q with q
           subst q
           obtain⟨p',n',t',x',e1,e2,_⟩:=hd.held _ List.mem_cons_self
           injection e1 with e1
           subst e1
           obtain⟨dn,en⟩:=num
           rw[en] at e2
           cases e2
         refine⟨hl,L,_,rfl,rfl,S'.h,Y8 (by omega),?_⟩
         have ep:upd H12 p (.tup [.ref m',.ref tq]) p=some (.tup [.ref m',.ref tq]):=A6
         have e':=up _ _ e
         have et':=up _ _ et
         have py':=py.same up
         have num':=num.same up
         generalize upd H12 p (.tup [.ref m',.ref tq])=H13 at*
         have xh:Exc hl H13 (upd H13 hl (.lst (L++ [.ref p]))):=Exc.upd
         have k3:K3 c d hl H13 (upd H13 hl (.lst (L++ [.ref p]))):=K3.oh xh
         have hd2:=hd'.k3 S' k3
         refine⟨L++ [.ref p],⟨hd2.base,hd2.nc,hd2.nd,hd2.nh,hd2.here,fun y' hy'=>?_⟩,S'.app _,by rw[List.length_append,List.length_singleton];omega,⟨S'.tup k3 py'.e,py.o,py.k⟩,S'.tup k3 et',.inl ⟨h0,m',xh _ _ e' nwh,S'.num k3 num'⟩,rfl⟩
         rcases List.mem_append.mp hy' with h|h
         . exact hd2.held y' h
         . rw[List.mem_singleton.mp h]
           exact⟨p,m',tq,R.1,rfl,S'.tup k3 ep,S'.num k3 num',S'.tup k3 et'⟩
       . exact⟨_,rfl,_,_,_,_,false,rfl,rfl,G4n e,T.tuple_list,_,rfl,U6 ⟨L,hd,S,by omega,py,et,.inr ⟨z,hz,e⟩,rfl⟩⟩
     clear hd S py et fo lL
     refine L2.hideG fun Z_ z_=>?_
     rintro σ' H13 ⟨L',hd,S,lL,py,et,fo,rfl⟩
     subst z_
     clear I_
     refine⟨fun σ' H'=>H'=H13/\σ'=[sr sc,sr fq,sr c,sr d,sr oq,sr hl,si (j:Int),si m,sr oq,sr tq,sr lq,sr wa],⟨_,rfl,rfl,rfl⟩,?_⟩
     rintro σ' H14 ⟨rfl,rfl⟩
     have hd':A9e CN H1 H14 c d hl oq y L':=⟨hd.base,hd.nc,hd.nd,hd.nh,py,hd.held⟩
     refine⟨_,?_,fun _ _ h=>h⟩
     rcases fo with⟨h0,m',e,num⟩|⟨z,hz,e⟩
     . refine⟨_,rfl,_,_,_,_,true,rfl,rfl,C0p e,T.list_list,_,rfl,Y3 ⟨_,rfl,tq,_,_,_,rfl,rfl,SqT.of et,C0 (j:=0) rfl,rfl,_,rfl,G8 (fun hp=>?_) (fun _=>⟨oq,y,L',_,ys,_,_,_,_,_,_,hd',⟨⟨a',b,u,t,S⟩,A8g _,sy⟩,lL,rfl⟩)⟩⟩
       have kp:=D4f hp
       refine⟨_,?_,fun _ _ h=>h⟩
       refine⟨_,rfl,_,rfl,tq,_,rfl,SqT.of et,fun h=>absurd (show HT.sIx 4 0 (some 1)=0 from h.1) (by decide),fun p np=>?_⟩
       have up:=B5.upd (o:= .tup R.1.pv) np
       have hd2:=hd'.same up
       exact⟨p,R.1,L',_,ys,_,_,_,_,_,_,⟨hd2.base,hd2.nc,hd2.nd,hd2.nh,⟨A6,dok kp,kp⟩,hd2.held⟩,⟨⟨a',b,u,t,S.same up⟩,A8g _,sy⟩,lL,rfl⟩
     . exact⟨_,rfl,_,_,_,_,false,rfl,rfl,G4n e,T.tuple_list,_,rfl,U6 (U6 ⟨oq,y,L',_,ys,_,_,_,_,_,_,hd',⟨⟨a',b,u,t,S⟩,A8g _,sy⟩,lL,rfl⟩)⟩
   . rintro σ' H6 ⟨hq,x,L,xs,ys,k6,k7,k8,k9,k10,k11,hd,S,lL,rfl⟩
     exact⟨hq,x,L,xs,ys,k6,k7,k8,k9,k10,k11,hd,S,by omega,rfl⟩
 refine L2.hideG fun Z_ z_=>?_
 rintro σ' H6 ⟨hq,x,L,xs,ys,k6,k7,k8,k9,k10,k11,hd,⟨⟨a,b,u,t,S⟩,sx,sy⟩,lL,rfl⟩
 subst z_
 clear I_
 refine⟨_,rfl,hl,rfl,⟨_,SqL.of S.h⟩,C0t (J:=Itl K hl) (n:=L.length) (fun _=>false) (fun _ _ _=>True) (by omega) (fun _ _ _ _ _ _ h _ _=>h) (fun i H2 Qy Qn hi sm hy hn=>⟨⟨L,L[i],SqL.of (sm _ _ S.h),by simp[hi]⟩,fun z H3 yl=>?_⟩) (fun H2 sm=>⟨L,SqL.of (sm _ _ S.h),Nat.le_refl _⟩) (fun D' H' zs sm nD eD hlen hR=>?_)⟩
 . obtain⟨rfl,yl⟩:=yl
   have ez:=yl _ (SqL.of (sm _ _ S.h))
   have mem:z∈L:=List.mem_of_getElem? ez
   obtain⟨p,n,tt,xn,rfl,e1,e2,e3⟩:=hd.held z mem
   have e1:=sm _ _ e1
   refine⟨_,rfl,p,_,_,_,rfl,rfl,SqT.of e1,C0 (j:=0) rfl,_,rfl,.inl ⟨n,_,_,_,_,rfl,e2.same sm,fun q nq=>?_⟩⟩
   have uq:=B5.upd (o:= .tup (Nm.vs xn)) nq
   refine⟨_,rfl,p,_,_,_,rfl,rfl,SqT.of (uq _ _ e1),C0 (j:=1) rfl,B4w xn.k.str xn.s xn.f xn.p,B4w xn.k.str xn.s xn.f xn.p,rdD A6,rdD (uq _ _ (sm _ _ e3)),shD _ _ _ (okK xn.k),shD _ _ _ (okK xn.k),_,rfl,?_⟩
   rw[if_pos rfl,eqD]
   exact U6 (hn rfl _ uq)
 have e0:zs=[]:=by
   have:zs.length=0:=by rw[hlen];simp
   exact List.length_eq_zero_iff.mp this
 subst e0
 refine⟨Nat.zero_le _,fun l1 n1=>?_⟩
 have u1:=B5.upd (o:= .lst []) n1
 refine⟨rdS [],rdS [],A5s (u1 _ _ eD),A5s A6,shS ⟨by simp,by simp⟩,shS ⟨by simp,by simp⟩,?_⟩
 rw[if_neg Bool.false_ne_true,G1n]
 exact kk _
noncomputable def Fa (K:Frag) (x:Str) (st:Stmt):Prop:=∃(f:Addr) (oc:Value) (od:Option Addr) (osl:Array (Option Value)) (kV doc pm:Value) (an:Option Addr) (cdv ct:Value),nsIn K mainGlobals x=some (some (.ref f))/\K.lookup f=some ⟨oc,od,.func (fnOf x x (J9 st) (J0 st) (A7 st) .none kV doc pm an cdv ct),osl⟩/\codeIn K cdv x=true/\keepIn K (.ref f)=true
theorem Fa.mk{K:Frag}{x:Str}{st:Stmt}{oc:Value}{od an:Option Addr}{osl:Array (Option Value)}{kV doc pm cdv ct:Value}(a:nsIn K mainGlobals x=some (some (.ref f)))(l:K.lookup f=some ⟨oc,od,.func (fnOf x x (J9 st) (J0 st) (A7 st) .none kV doc pm an cdv ct),osl⟩)(c:codeIn K cdv x=true)(k:keepIn K (.ref f)=true):Fa K x st:=
 ⟨_,_,_,_,_,_,_,_,_,_,a,l,c,k⟩
noncomputable def Fb (K:Frag) (C:Addr) (m q:Str) (st:Stmt):Prop:=∃(f:Addr) (oc:Value) (od:Option Addr) (osl:Array (Option Value)) (kV doc pm:Value) (an:Option Addr) (cdv ct:Value),findIn K (.ref C) m=some (some (.ref f))/\isFn K (.ref f)=true/\K.lookup f=some ⟨oc,od,.func (fnOf m q (J9 st) (J0 st) (A7 st) .none kV doc pm an cdv ct),osl⟩/\codeIn K cdv q=true/\keepIn K (.ref f)=true
theorem Fb.mk{K:Frag}{C:Addr}{m q:Str}{st:Stmt}{oc:Value}{od an:Option Addr}{osl:Array (Option Value)}{kV doc pm cdv ct:Value}(a:findIn K (.ref C) m=some (some (.ref f)))(i:isFn K (.ref f)=true)(l:K.lookup f=some ⟨oc,od,.func (fnOf m q (J9 st) (J0 st) (A7 st) .none kV doc pm an cdv ct),osl⟩)(c:codeIn K cdv q=true)(k:keepIn K (.ref f)=true):Fb K C m q st:=
 ⟨_,_,_,_,_,_,_,_,_,_,a,i,l,c,k⟩
theorem Fa.go0{K:Frag}{h:Heap}{mg:Str ->Option Value}{x:Str}{st:Stmt}(u:Fa K x st)(X:K.In h)(G:h.Ns mainGlobals mg)
   (hb:∀(kV doc pm:Value) (an:Option Addr) (cdv ct:Value),bindArgs (fnOf x x (J9 st) (J0 st) (A7 st) .none kV doc pm an cdv ct) ⟨[],[]⟩=pure ([].zip []):=by intros;rfl):∃f fd,Def K mg x [] st f fd:=by
 obtain⟨_,_,_,_,_,_,_,_,_,_,a,l,c,k⟩:=u
 exact⟨_,_,A7n X G a l c k fun kV d p an cd ct us hl=>match us,hl with| [],_=>hb kV d p an cd ct⟩
theorem Fa.go1{K:Frag}{h:Heap}{mg:Str ->Option Value}{x:Str}{p0:Str}{st:Stmt}(u:Fa K x st)(X:K.In h)(G:h.Ns mainGlobals mg)
   (hb:∀(kV doc pm:Value) (an:Option Addr) (cdv ct:Value) (u0:Value),bindArgs (fnOf x x (J9 st) (J0 st) (A7 st) .none kV doc pm an cdv ct) ⟨[u0],[]⟩=pure ([p0].zip [u0]):=by intros;rfl):∃f fd,Def K mg x [p0] st f fd:=by
 obtain⟨_,_,_,_,_,_,_,_,_,_,a,l,c,k⟩:=u
 exact⟨_,_,A7n X G a l c k fun kV d p an cd ct us hl=>match us,hl with| [_],_=>hb kV d p an cd ct _⟩
theorem Fb.go1{K:Frag}{C:Addr}{x q:Str}{p0:Str}{st:Stmt}(u:Fb K C x q st)
   (hb:∀(kV doc pm:Value) (an:Option Addr) (cdv ct:Value) (u0:Value),bindArgs (fnOf x q (J9 st) (J0 st) (A7 st) .none kV doc pm an cdv ct) ⟨[u0],[]⟩=pure ([p0].zip [u0]):=by intros;rfl):∃f fd,Fun K x q st f fd/\Binds K fd [p0] []/\A9f K C x f:=by
 obtain⟨_,_,_,_,_,_,_,_,_,_,a,i,l,c,k⟩:=u
 exact⟨_,_,A3g (st:=st) l c k,(A3g (st:=st) l c k).binds fun kV d p an cd ct us hl=>match us,hl with| [_],_=>hb kV d p an cd ct _,a,i,k⟩
theorem Fa.go2{K:Frag}{h:Heap}{mg:Str ->Option Value}{x:Str}{p0 p1:Str}{st:Stmt}(u:Fa K x st)(X:K.In h)(G:h.Ns mainGlobals mg)
   (hb:∀(kV doc pm:Value) (an:Option Addr) (cdv ct:Value) (u0 u1:Value),bindArgs (fnOf x x (J9 st) (J0 st) (A7 st) .none kV doc pm an cdv ct) ⟨[u0,u1],[]⟩=pure ([p0,p1].zip [u0,u1]):=by intros;rfl):∃f fd,Def K mg x [p0,p1] st f fd:=by
 obtain⟨_,_,_,_,_,_,_,_,_,_,a,l,c,k⟩:=u
 exact⟨_,_,A7n X G a l c k fun kV d p an cd ct us hl=>match us,hl with| [_,_],_=>hb kV d p an cd ct _ _⟩
theorem Fb.go2{K:Frag}{C:Addr}{x q:Str}{p0 p1:Str}{st:Stmt}(u:Fb K C x q st)
   (hb:∀(kV doc pm:Value) (an:Option Addr) (cdv ct:Value) (u0 u1:Value),bindArgs (fnOf x q (J9 st) (J0 st) (A7 st) .none kV doc pm an cdv ct) ⟨[u0,u1],[]⟩=pure ([p0,p1].zip [u0,u1]):=by intros;rfl):∃f fd,Fun K x q st f fd/\Binds K fd [p0,p1] []/\A9f K C x f:=by
 obtain⟨_,_,_,_,_,_,_,_,_,_,a,i,l,c,k⟩:=u
 exact⟨_,_,A3g (st:=st) l c k,(A3g (st:=st) l c k).binds fun kV d p an cd ct us hl=>match us,hl with| [_,_],_=>hb kV d p an cd ct _ _,a,i,k⟩
theorem Fa.go3{K:Frag}{h:Heap}{mg:Str ->Option Value}{x:Str}{p0 p1 p2:Str}{st:Stmt}(u:Fa K x st)(X:K.In h)(G:h.Ns mainGlobals mg)
   (hb:∀(kV doc pm:Value) (an:Option Addr) (cdv ct:Value) (u0 u1 u2:Value),bindArgs (fnOf x x (J9 st) (J0 st) (A7 st) .none kV doc pm an cdv ct) ⟨[u0,u1,u2],[]⟩=pure ([p0,p1,p2].zip [u0,u1,u2]):=by intros;rfl):∃f fd,Def K mg x [p0,p1,p2] st f fd:=by
 obtain⟨_,_,_,_,_,_,_,_,_,_,a,l,c,k⟩:=u
 exact⟨_,_,A7n X G a l c k fun kV d p an cd ct us hl=>match us,hl with| [_,_,_],_=>hb kV d p an cd ct _ _ _⟩
theorem Fa.go4{K:Frag}{h:Heap}{mg:Str ->Option Value}{x:Str}{p0 p1 p2 p3:Str}{st:Stmt}(u:Fa K x st)(X:K.In h)(G:h.Ns mainGlobals mg)
   (hb:∀(kV doc pm:Value) (an:Option Addr) (cdv ct:Value) (u0 u1 u2 u3:Value),bindArgs (fnOf x x (J9 st) (J0 st) (A7 st) .none kV doc pm an cdv ct) ⟨[u0,u1,u2,u3],[]⟩=pure ([p0,p1,p2,p3].zip [u0,u1,u2,u3]):=by intros;rfl):∃f fd,Def K mg x [p0,p1,p2,p3] st f fd:=by
 obtain⟨_,_,_,_,_,_,_,_,_,_,a,l,c,k⟩:=u
 exact⟨_,_,A7n X G a l c k fun kV d p an cd ct us hl=>match us,hl with| [_,_,_,_],_=>hb kV d p an cd ct _ _ _ _⟩
theorem Fb.go4{K:Frag}{C:Addr}{x q:Str}{p0 p1 p2 p3:Str}{st:Stmt}(u:Fb K C x q st)
   (hb:∀(kV doc pm:Value) (an:Option Addr) (cdv ct:Value) (u0 u1 u2 u3:Value),bindArgs (fnOf x q (J9 st) (J0 st) (A7 st) .none kV doc pm an cdv ct) ⟨[u0,u1,u2,u3],[]⟩=pure ([p0,p1,p2,p3].zip [u0,u1,u2,u3]):=by intros;rfl):∃f fd,Fun K x q st f fd/\Binds K fd [p0,p1,p2,p3] []/\A9f K C x f:=by
 obtain⟨_,_,_,_,_,_,_,_,_,_,a,i,l,c,k⟩:=u
 exact⟨_,_,A3g (st:=st) l c k,(A3g (st:=st) l c k).binds fun kV d p an cd ct us hl=>match us,hl with| [_,_,_,_],_=>hb kV d p an cd ct _ _ _ _,a,i,k⟩
theorem Fa.go5{K:Frag}{h:Heap}{mg:Str ->Option Value}{x:Str}{p0 p1 p2 p3 p4:Str}{st:Stmt}(u:Fa K x st)(X:K.In h)(G:h.Ns mainGlobals mg)
   (hb:∀(kV doc pm:Value) (an:Option Addr) (cdv ct:Value) (u0 u1 u2 u3 u4:Value),bindArgs (fnOf x x (J9 st) (J0 st) (A7 st) .none kV doc pm an cdv ct) ⟨[u0,u1,u2,u3,u4],[]⟩=pure ([p0,p1,p2,p3,p4].zip [u0,u1,u2,u3,u4]):=by intros;rfl):∃f fd,Def K mg x [p0,p1,p2,p3,p4] st f fd:=by
 obtain⟨_,_,_,_,_,_,_,_,_,_,a,l,c,k⟩:=u
 exact⟨_,_,A7n X G a l c k fun kV d p an cd ct us hl=>match us,hl with| [_,_,_,_,_],_=>hb kV d p an cd ct _ _ _ _ _⟩
end TR
namespace TR
open PySem L2 PySem.W PyProof.Rows
theorem all_mk{l:OpenLaw}{w:World}{K:Frag}{h:Heap}{mg:Str ->Option Value}{fa CW W0 W1 W2 W3 W4 W5 W6 W7 CN B6m CC B6p D5w CQ B6k D9p CE C1 C2 C3 CR fX aS RO B6n D6v D7z:Addr}(X:K.In h)(G:h.Ns mainGlobals mg)(hfa:mg "law"=some (.ref fa))(gz:Fa K "product_of" A4m)(qe:Fa K "ten_to" A1k)(qf:Fa K "plain" B7n)(v5:Fa K "end" C2s)(la:Fa K "nothing" A0z)(rh:Fa K "told" B9w)(rj:Fa K "lead_of" C5a)(qg:Fa K "need_number" A5d)(jk:Fa K "need_numbers" A4s)(qh:Fa K "some_of_kind" A3d)(ow:Fa K "unlike_sign" A6d)(lc:Fa K "whole_at" A1e)(v6:Fa K "is_between" C2j)(le:Fa K "need_between" A5e)(qi:Fa K "way_of" B2f)(lh:Fa K "bounded" A8b)(qj:Fa K "need_signals" B3a)(qk:Fa K "in_order" B2w)(oz:Fa K "part_of" A7w)(ql:Fa K "whole_lead" A7m)(qm:Fa K "whole_root" B2j)(lj:Fa K "settled" A1z)(o_:Fa K "finest_power" A8h)(lm:Fa K "nearest_to" A5r)(g_:Fa K "neighbour" A2m)(p5:Fa K "within_room" A7x)(p6:Fa K "is_beyond" A8v)(qo:Fa K "burst" B2u)(qp:Fa K "nines" B3h)(ln:Fa K "signals_of_rest" A9b)(lr:Fa K "signals_of_lead" A7y)(p7:Fa K "nought" A1v)(rn:Fa K "void" B4y)(qq:Fa K "split_to_end" B6s)(lu:Fa K "rounded" A3k)(ro:Fa K "over" C4k)(p8:Fa K "rest_of" B1k)(rp:Fa K "has_plain_quotient" C3t)(rq:Fa K "odd_quotient" C6d)(h6:Fa K "whole_part" A4k)(r_:Fa K "root" C4w)(sf:Fa K "plus" C4m)(qr:Fa K "times" B8p)(jm:Fa K "is_nought" B5e)(p9:Fa K "is_end_by_nought" B1j)(ly:Fa K "product" A8y)(qt:Fa K "added" B6q)(jn:Fa K "end_added" C9a)(qu:Fa K "sign_of_no_sum" B7g)(sh:Fa K "_law_cell_at" C4t)(qv:Fa K "_law_mixed" A9n)(sj:Fa K "_law_ten" A8p)(sk:Fa K "_law_figures" C6b)(pc:Fa K "_law_frame" B1n)(ss:Fa K "_law_context" C5v)(pd:Fa K "_law_plain" B1u)(pf:Fa K "_law_count" A6b)(ph:Fa K "_law_isqrt" B1x)(v7:Fa K "_law_at" D0a)(qw:Fa K "_law_lead" B8h)(qx:Fa K "_law_goes_up" B6w)(pi:Fa K "_law_burst" B1w)(jo:Fa K "_law_settled" A2k)(l_:Fa K "_law_nought" A3m)(qy:Fa K "_law_root" B8k)(qz:Fa K "_law_rest" B7p)(su:Fa K "_law_due" C3u)(q_:Fa K "_law_done" B7x)(sv:Fa K "_law_set" C4c)(r8:Fa K "_law_good" B7s){J0d D8h:Option Addr}{J0c:Array (Option Value)}{G9k D4t D7p D8g C3p D9k:Value}(C6m:nsIn K mainGlobals "law"=some (some (.ref D7z)))(D7d:K.lookup D7z=some ⟨G9k,J0d,.func (fnOf "law" "law" (J9 B6t) (J0 B6t) (A7 B6t) .none D4t D7p D8g D8h C3p D9k),J0c⟩)(D5g:codeIn K C3p "law"=true)(D5m:keepIn K (.ref D7z)=true)(v8:G8f K)(T:Kit K)(sn:specialIn K (.builtin "object.__class__") "__get__"=some (some (.builtin "getset_descriptor.__get__")))(tk:takesIn K (.builtin "object.__class__")=some true)(J4s:nsIn K mainGlobals "Way"=some (some (.ref CW)))(G9b:nsIn K mainGlobals "Down"=some (some (.ref W0)))(D7c:Cls K W0)(D5k:makesIn K W0=true)(D7t:keepIn K (.ref W0)=true)(D4y:findIn K (.ref W0) "__class__"=some (some (.builtin "object.__class__")))(D6b:mroIn K W0 (.type "object")=some true)(D4w:findIn K (.ref W0) "__init__"=some (some (.builtin "object.__init__")))(D8r:kitOne K (.ref W0) (.ref CW)=some true)(m6:Fb K W0 "name" "Down.name" sN0)(G9r:nsIn K mainGlobals "Up"=some (some (.ref W1)))(D4m:Cls K W1)(D7u:makesIn K W1=true)(D6p:keepIn K (.ref W1)=true)(D8s:findIn K (.ref W1) "__class__"=some (some (.builtin "object.__class__")))(D9d:mroIn K W1 (.type "object")=some true)(D9e:findIn K (.ref W1) "__init__"=some (some (.builtin "object.__init__")))(D8a:kitOne K (.ref W1) (.ref CW)=some true)(m7:Fb K W1 "name" "Up.name" sN1)(G9g:nsIn K mainGlobals "Floor"=some (some (.ref W2)))(D8v:Cls K W2)(D9f:makesIn K W2=true)(D6h:keepIn K (.ref W2)=true)(D6w:findIn K (.ref W2) "__class__"=some (some (.builtin "object.__class__")))(D9j:mroIn K W2 (.type "object")=some true)(D5n:findIn K (.ref W2) "__init__"=some (some (.builtin "object.__init__")))(D8n:kitOne K (.ref W2) (.ref CW)=some true)(m8:Fb K W2 "name" "Floor.name" sN2)(G8q:nsIn K mainGlobals "Ceiling"=some (some (.ref W3)))(D7j:Cls K W3)(D4v:makesIn K W3=true)(D5q:keepIn K (.ref W3)=true)(D8u:findIn K (.ref W3) "__class__"=some (some (.builtin "object.__class__")))(D6j:mroIn K W3 (.type "object")=some true)(D4x:findIn K (.ref W3) "__init__"=some (some (.builtin "object.__init__")))(D7g:kitOne K (.ref W3) (.ref CW)=some true)(m9:Fb K W3 "name" "Ceiling.name" sN3)(G9m:nsIn K mainGlobals "HalfUp"=some (some (.ref W4)))(D6z:Cls K W4)(D5z:makesIn K W4=true)(D4r:keepIn K (.ref W4)=true)(D6c:findIn K (.ref W4) "__class__"=some (some (.builtin "object.__class__")))(D6f:mroIn K W4 (.type "object")=some true)(D6s:findIn K (.ref W4) "__init__"=some (some (.builtin "object.__init__")))(D7m:kitOne K (.ref W4) (.ref CW)=some true)(ma:Fb K W4 "name" "HalfUp.name" sN4)(G9h:nsIn K mainGlobals "HalfDown"=some (some (.ref W5)))(D7a:Cls K W5)(D8x:makesIn K W5=true)(D7x:keepIn K (.ref W5)=true)(D7w:findIn K (.ref W5) "__class__"=some (some (.builtin "object.__class__")))(D8z:mroIn K W5 (.type "object")=some true)(D7f:findIn K (.ref W5) "__init__"=some (some (.builtin "object.__init__")))(D6r:kitOne K (.ref W5) (.ref CW)=some true)(md:Fb K W5 "name" "HalfDown.name" sN5)(G8v:nsIn K mainGlobals "HalfEven"=some (some (.ref W6)))(D7k:Cls K W6)(D5x:makesIn K W6=true)(D7s:keepIn K (.ref W6)=true)(D4q:findIn K (.ref W6) "__class__"=some (some (.builtin "object.__class__")))(D7y:mroIn K W6 (.type "object")=some true)(D5c:findIn K (.ref W6) "__init__"=some (some (.builtin "object.__init__")))(D5a:kitOne K (.ref W6) (.ref CW)=some true)(mh:Fb K W6 "name" "HalfEven.name" sN6)(G9w:nsIn K mainGlobals "FiveUp"=some (some (.ref W7)))(D4s:Cls K W7)(D4u:makesIn K W7=true)(D5s:keepIn K (.ref W7)=true)(D6x:findIn K (.ref W7) "__class__"=some (some (.builtin "object.__class__")))(D8e:mroIn K W7 (.type "object")=some true)(D6m:findIn K (.ref W7) "__init__"=some (some (.builtin "object.__init__")))(D5r:kitOne K (.ref W7) (.ref CW)=some true)(mi:Fb K W7 "name" "FiveUp.name" sN7)(J0e:nsIn K mainGlobals "Number"=some (some (.ref CN)))(D6a:Cls K CN)(D9v:makesIn K CN=true)(D7r:keepIn K (.ref CN)=true)(D8k:findIn K (.ref CN) "__class__"=some (some (.builtin "object.__class__")))(D5y:mroIn K CN (.type "object")=some true)(B0k:findIn K (.ref CN) "kind"=some none)(B0g:findIn K (.ref CN) "sign"=some none)(A4w:findIn K (.ref CN) "figures"=some none)(A7u:findIn K (.ref CN) "power"=some none)(D5p:findIn K (.ref CN) "__init__"=some (some (.ref B6m)))(D7q:isFn K (.ref B6m)=true){G9p G9d:Option Addr}{G8u:Array (Option Value)}{G9e G8x G9j G8w D9m G9u:Value}(D8b:K.lookup B6m=some ⟨G9e,G9p,.func (fnOf "__init__" "Number.__init__" (J9 B5x) (J0 B5x) (A7 B5x) .none G8x G9j G8w G9d D9m G9u),G8u⟩)(D6g:codeIn K D9m "Number.__init__"=true)(D9t:keepIn K (.ref B6m)=true)(B8x:kitOne K (.ref CN) (.ref CN)=some true)(cr:Fb K W0 "goes_up" "Down.goes_up" sU0)(h7:Fb K W0 "to_end" "Down.to_end" sT0)(cx:Fb K W1 "goes_up" "Up.goes_up" sU1)(h8:Fb K W1 "to_end" "Up.to_end" sT1)(cy:Fb K W2 "goes_up" "Floor.goes_up" sU2)(h9:Fb K W2 "to_end" "Floor.to_end" sT2)(cz:Fb K W3 "goes_up" "Ceiling.goes_up" sU3)(h_:Fb K W3 "to_end" "Ceiling.to_end" sT3)(c_:Fb K W4 "goes_up" "HalfUp.goes_up" sU4)(i0:Fb K W4 "to_end" "HalfUp.to_end" sT4)(d4:Fb K W5 "goes_up" "HalfDown.goes_up" sU5)(i4:Fb K W5 "to_end" "HalfDown.to_end" sT5)(d7:Fb K W6 "goes_up" "HalfEven.goes_up" sU6)(i5:Fb K W6 "to_end" "HalfEven.to_end" sT6)(d8:Fb K W7 "goes_up" "FiveUp.goes_up" sU7)(i6:Fb K W7 "to_end" "FiveUp.to_end" sT7)(G8h:nsIn K mainGlobals "Context"=some (some (.ref CC)))(D7v:Cls K CC)(D9s:makesIn K CC=true)(D5d:keepIn K (.ref CC)=true)(B0j:findIn K (.ref CC) "room"=some none)(B0m:findIn K (.ref CC) "rule"=some none)(A7t:findIn K (.ref CC) "least"=some none)(B0h:findIn K (.ref CC) "most"=some none)(A7r:findIn K (.ref CC) "risen"=some none)(A4x:findIn K (.ref CC) "trapped"=some none)(D4p:findIn K (.ref CC) "__init__"=some (some (.ref B6p)))(D6t:isFn K (.ref B6p)=true){G9y D6u:Option Addr}{G9n:Array (Option Value)}{G8s D8c D9c D7e C3q D5f:Value}(D9g:K.lookup B6p=some ⟨G8s,G9y,.func (fnOf "__init__" "Context.__init__" (J9 A0x) (J0 A0x) (A7 A0x) (.ref D5w) D8c D9c D7e D6u C3q D5f),G9n⟩)(D4z:codeIn K C3q "Context.__init__"=true)(D9n:keepIn K (.ref B6p)=true){J4p J5c J4v:Tok}{J4w:Nat}{G8j:Option Addr}{J0b:Value}{G9s:Array (Option Value)}(D6q:K.lookup D5w=some ⟨J0b,G8j,.seq #[.int 9 J4p,.str "half even" J5c,.none,.int 60 J4v] J4w,G9s⟩)(jp:Fb K CC "flags" "Context.flags" A9h)(i7:Fb K CC "lowest" "Context.lowest" B7q)(pj:Fb K CC "way" "Context.way" B6r)(i8:Fb K CC "raised" "Context.raised" A7k)(jq:Fb K CC "clear" "Context.clear" A9t)(G9z:nsIn K mainGlobals "Ratio"=some (some (.ref CQ)))(D5e:Cls K CQ)(D7n:makesIn K CQ=true)(D4n:keepIn K (.ref CQ)=true)(D8d:findIn K (.ref CQ) "__class__"=some (some (.builtin "object.__class__")))(D8y:mroIn K CQ (.type "object")=some true)(B4r:findIn K (.ref CQ) "top"=some none)(A5z:findIn K (.ref CQ) "bottom"=some none)(A7q:findIn K (.ref CQ) "power"=some none)(D6k:findIn K (.ref CQ) "__init__"=some (some (.ref B6k)))(D5t:isFn K (.ref B6k)=true){G8n D9r:Option Addr}{G8r:Array (Option Value)}{G8k D9w D9a D5h C3n D5b:Value}(D7b:K.lookup B6k=some ⟨G8k,G8n,.func (fnOf "__init__" "Ratio.__init__" (J9 A3z) (J0 A3z) (A7 A3z) (.ref D9p) D9w D9a D5h D9r C3n D5b),G8r⟩)(D8p:codeIn K C3n "Ratio.__init__"=true)(D6d:keepIn K (.ref B6k)=true){G4x:Tok}{J4r:Nat}{J0f:Option Addr}{G9c:Value}{G9v:Array (Option Value)}(C1e:K.lookup D9p=some ⟨G9c,J0f,.seq #[.int 0 G4x] J4r,G9v⟩)(jr:Fb K CQ "first" "Ratio.first" A8d)(r9:Fb K CQ "at" "Ratio.at" C5p)(G4f:nsIn K mainGlobals "Exact"=some (some (.ref CE)))(D7h:kitOne K (.ref CQ) (.ref CE)=some true)(J0g:nsIn K mainGlobals "BadContext"=some (some (.ref C1)))(G9q:nsIn K mainGlobals "BadNumber"=some (some (.ref C2)))(G4g:nsIn K mainGlobals "Trapped"=some (some (.ref C3)))(G8y:nsIn K mainGlobals "ReckonError"=some (some (.ref CR)))(cty:typeIn K (.ref CR)=some (.type "type")){dR:ClassData}(ccl:clsIn K CR=some dR)(cex:subIn K (.ref CR) (.type "BaseException")=some true)(sub3:subIn K (.ref C3) (.ref CR)=some true)(xga3:findIn K (.ref C3) "__getattribute__"=some (some (.builtin "BaseException.__getattribute__")))(xgh3:findIn K (.ref C3) "__getattr__"=some none)(xca3:findIn K (.ref C3) "__class__"=some (some (.builtin "object.__class__")))(xob3:mroIn K C3 (.type "object")=some true)(xbe3:subIn K (.ref C3) (.type "BaseException")=some true){d3:ClassData}(xcl3:clsIn K C3=some d3)(J4x:kitOne K (.ref C3) (.ref C1)=some false)(J4a:kitOne K (.ref C3) (.ref C2)=some false)(J4b:kitOne K (.ref C3) (.ref C3)=some true)(hv3:kitOne K (.ref C3) (.type "ValueError")=some true){nmT qT:Str}{NT:Addr}{bsT bmT:List Value}{snT:List Str}{suT:List Value}{abT:Bool}{coT:Option Bool}{ddT:Option Addr}{kT0 kT1 kT2 kT3 kT5:Option Value}(lT:K.lookup C3=some (excClassObj nmT qT C3 NT bsT bmT true snT suT abT coT ddT kT0 kT1 kT2 kT3 kT5 "ValueError.__new__")){ocN:Value}{odN:Option Addr}{esN:Array DictEntry}{epN:Nat}{slN:Array (Option Value)}(lN:K.lookup NT=some ⟨ocN,odN,.dict esN epN,slN⟩)(alN:(esN.all fun e=>match e.key with| .str _ _=>true|_=>false)=true)(niT:nsIn K NT "__init__"=some (some (.ref fX))){nmU qU:Str}{NU:Addr}{bsU:List Value}{snU:List Str}{suU:List Value}{abU:Bool}{coU:Option Bool}{ddU:Option Addr}{kU0 kU1 kU2 kU3 kU5:Option Value}(lT1:K.lookup C1=some (excClassObj nmU qU C1 NU bsU bmT true snU suU abU coU ddU kU0 kU1 kU2 kU3 kU5 "ValueError.__new__"))(saT:findIn K (.ref C3) "__setattr__"=some (some (.builtin "object.__setattr__")))(nsg3:findIn K (.ref C3) "signal"=some none){J4h J5b:Option Addr}{J4m:Array (Option Value)}{G4v J4k J4g J4y G4w J4d:Value}(G4e:K.lookup fX=some ⟨G4v,J4h,.func (fnOf "__init__" "Trapped.__init__" (J9 A6c) (J0 A6c) (A7 A6c) .none J4k J4g J4y J5b G4w J4d),J4m⟩)(G9a:codeIn K G4w "Trapped.__init__"=true)(G8t:keepIn K (.ref fX)=true)(fcT:G4v= .type "function")(kTR:kitOne K (.ref C3) (.ref CR)=some true)(q1:excIn K C1 [.type "ValueError",.type "Exception",.type "BaseException",.type "object"] "ValueError.__new__"=true)(q2:excIn K C2 [.type "ValueError",.type "Exception",.type "BaseException",.type "object"] "ValueError.__new__"=true)(a_S:nsIn K mainGlobals "SIGNALS"=some (some (.ref aS))){u0 u1 u2 u3 u4 u5 u6:Tok}{nS:Nat}{odS:Option Addr}{slS:Array (Option Value)}(lS:K.lookup aS=some ⟨.type "tuple",odS,.seq #[.str "void" u0,.str "split" u1,.str "burst" u2,.str "sunk" u3,.str "faint" u4,.str "off" u5,.str "cut" u6] nS,slS⟩)(mj:Fb K CC "trap" "Context.trap" B3u)(jt:Fb K CC "traps" "Context.traps" A9z)(tyT:typeIn K (.ref C3)=some (.type "type"))(subT:subIn K (.ref C3) (.ref C3)=some true)(G9x:nsIn K mainGlobals "Root"=some (some (.ref RO)))(D8m:Cls K RO)(D6n:makesIn K RO=true)(D8f:keepIn K (.ref RO)=true)(D9u:findIn K (.ref RO) "__class__"=some (some (.builtin "object.__class__")))(D6e:mroIn K RO (.type "object")=some true)(B4q:findIn K (.ref RO) "top"=some none)(A7s:findIn K (.ref RO) "power"=some none)(D8q:findIn K (.ref RO) "__init__"=some (some (.ref B6n)))(D9b:isFn K (.ref B6n)=true){G8z D5u:Option Addr}{G9f:Array (Option Value)}{G8m D8j D8w D5v C3r D6y:Value}(D8t:K.lookup B6n=some ⟨G8m,G8z,.func (fnOf "__init__" "Root.__init__" (J9 A4p) (J0 A4p) (A7 A4p) (.ref D6v) D8j D8w D5v D5u C3r D6y),G9f⟩)(D5j:codeIn K C3r "Root.__init__"=true)(D9h:keepIn K (.ref B6n)=true){G4y:Tok}{J4u:Nat}{J0a:Option Addr}{G9t:Value}{G8p:Array (Option Value)}(C1f:K.lookup D6v=some ⟨G9t,J0a,.seq #[.int 0 G4y] J4u,G8p⟩)(ju:Fb K RO "first" "Root.first" A8q)(rb:Fb K RO "at" "Root.at" C3s)(D9q:kitOne K (.ref RO) (.ref CE)=some true):∃fd:FuncData,(∀(s:Shared) (v:Value),BindsTo s fd ⟨[v],[]⟩ [("_law_script",v)])/\∀base:Heap,K.In base ->base.Ns mainGlobals mg ->A8 l.prog w K mg base (CX1 l.prog w) 10 fa fd ["_law_script"] (C6e K):=by
 have e:=hfa.symm.trans (mg_of X G C6m)
 cases e
 obtain⟨ug,_,bc⟩:=gz.go2 X G
 obtain⟨y3,_,aa⟩:=qe.go1 X G
 obtain⟨y4,_,j6⟩:=qf.go3 X G
 obtain⟨zc,_,bu⟩:=v5.go1 X G
 obtain⟨vo,_,ac⟩:=la.go0 X G
 obtain⟨yr,_,d9⟩:=rh.go1 X G
 obtain⟨yt,_,ml⟩:=rj.go1 X G
 obtain⟨y6,_,am⟩:=qg.go1 X G
 obtain⟨v9,_,ai⟩:=jk.go1 X G
 obtain⟨y7,_,ag⟩:=qh.go2 X G
 obtain⟨wm,_,av⟩:=ow.go2 X G
 obtain⟨vp,_,ak⟩:=lc.go2 X G
 obtain⟨zd,_,jv⟩:=v6.go3 X G
 obtain⟨vt,_,c5⟩:=le.go3 X G
 obtain⟨y8,_,bw⟩:=qi.go1 X G
 obtain⟨vv,_,c7⟩:=lh.go3 X G
 obtain⟨y9,_,bx⟩:=qj.go1 X G
 obtain⟨ya,_,bz⟩:=qk.go1 X G
 obtain⟨wn,_,bi⟩:=oz.go2 X G
 obtain⟨yb,_,b6⟩:=ql.go1 X G
 obtain⟨yc,_,j7⟩:=qm.go1 X G
 obtain⟨c8,_,ae⟩:=lj.go4 X G
 obtain⟨wo,_,aw⟩:=o_.go2 X G
 obtain⟨vw,_,ay⟩:=lm.go4 X G
 obtain⟨ui,_,au⟩:=g_.go3 X G
 obtain⟨wp,_,bq⟩:=p5.go4 X G
 obtain⟨wt,_,br⟩:=p6.go2 X G
 obtain⟨yd,_,b_⟩:=qo.go2 X G
 obtain⟨ye,_,j8⟩:=qp.go2 X G
 obtain⟨vx,_,az⟩:=ln.go2 X G
 obtain⟨vy,_,a_⟩:=lr.go3 X G
 obtain⟨wu,_,af⟩:=p7.go3 X G
 obtain⟨yu,_,b5⟩:=rn.go1 X G
 obtain⟨yf,_,j9⟩:=qq.go2 X G
 obtain⟨vz,_,aq⟩:=lu.go2 X G
 obtain⟨yw,_,mn⟩:=ro.go3 X G
 obtain⟨wv,_,db⟩:=p8.go3 X G
 obtain⟨yx,_,mq⟩:=rp.go2 X G
 obtain⟨yy,_,mr⟩:=rq.go4 X G
 obtain⟨uj,_,bd⟩:=h6.go2 X G
 obtain⟨yz,_,ms⟩:=r_.go2 X G
 obtain⟨y_,_,mv⟩:=sf.go3 X G
 obtain⟨yg,_,ja⟩:=qr.go3 X G
 obtain⟨va,_,jw⟩:=jm.go1 X G
 obtain⟨wx,_,dc⟩:=p9.go2 X G
 obtain⟨v_,_,c9⟩:=ly.go2 X G
 obtain⟨yh,_,jb⟩:=qt.go3 X G
 obtain⟨vb,_,jx⟩:=jn.go3 X G
 obtain⟨yi,_,jc⟩:=qu.go3 X G
 obtain⟨z5,_,mw⟩:=sh.go2 X G
 obtain⟨yj,_,b7⟩:=qv.go2 X G
 obtain⟨z6,_,ao⟩:=sj.go1 X G
 obtain⟨z7,_,mx⟩:=sk.go2 X G
 obtain⟨wz,_,df⟩:=pc.go1 X G
 obtain⟨z9,_,my⟩:=ss.go1 X G
 obtain⟨w_,_,dg⟩:=pd.go2 X G
 obtain⟨x0,_,ax⟩:=pf.go1 X G
 obtain⟨x9,_,dh⟩:=ph.go1 X G
 obtain⟨ze,_,jy⟩:=v7.go2 X G
 obtain⟨yk,_,jd⟩:=qw.go1 X G
 obtain⟨ym,_,je⟩:=qx.go4 X G
 obtain⟨xa,_,di⟩:=pi.go4 X G
 obtain⟨vc,_,al⟩:=jo.go4 X G
 obtain⟨w6,_,ar⟩:=l_.go3 X G
 obtain⟨yn,_,jf⟩:=qy.go2 X G
 obtain⟨yo,_,jg⟩:=qz.go3 X G
 obtain⟨za,_,mz⟩:=su.go4 X G
 obtain⟨yp,_,jh⟩:=q_.go4 X G
 obtain⟨zb,_,m_⟩:=sv.go3 X G
 obtain⟨yq,_,ji⟩:=r8.go5 X G
 have J5a:=A7n (ps:=["_law_script"]) (st:=B6t) X G C6m D7d D5g D5m fun _ _ _ _ _ _ us hl=>match us,hl with| [_],_=>rfl
 have O:Own mg:=v8.go X G
 have J4n:Mk0 K W0:=⟨D5k,D4w,D7t⟩
 obtain⟨w8,_,n8,ng,jz⟩:=m6.go1
 have WC0:B1h K mg "Down" W0 CW:=⟨mg_of X G G9b,D7c,J4n,D4y,sn,tk,D6b,D8r⟩
 have J3x:Mk0 K W1:=⟨D7u,D9e,D6p⟩
 obtain⟨w9,_,ni,nj,j_⟩:=m7.go1
 have WC1:B1h K mg "Up" W1 CW:=⟨mg_of X G G9r,D4m,J3x,D8s,sn,tk,D9d,D8a⟩
 have J5d:Mk0 K W2:=⟨D9f,D5n,D6h⟩
 obtain⟨wb,_,nk,no,ka⟩:=m8.go1
 have WC2:B1h K mg "Floor" W2 CW:=⟨mg_of X G G9g,D8v,J5d,D6w,sn,tk,D9j,D8n⟩
 have J4t:Mk0 K W3:=⟨D4v,D4x,D5q⟩
 obtain⟨wd,_,ny,n_,kc⟩:=m9.go1
 have WC3:B1h K mg "Ceiling" W3 CW:=⟨mg_of X G G8q,D7j,J4t,D8u,sn,tk,D6j,D7g⟩
 have J4f:Mk0 K W4:=⟨D5z,D6s,D4r⟩
 obtain⟨we,_,o0,o8,kd⟩:=ma.go1
 have WC4:B1h K mg "HalfUp" W4 CW:=⟨mg_of X G G9m,D6z,J4f,D6c,sn,tk,D6f,D7m⟩
 have J3z:Mk0 K W5:=⟨D8x,D7f,D7x⟩
 obtain⟨wf,_,o9,oe,ke⟩:=md.go1
 have WC5:B1h K mg "HalfDown" W5 CW:=⟨mg_of X G G9h,D7a,J3z,D7w,sn,tk,D8z,D6r⟩
 have J3y:Mk0 K W6:=⟨D5x,D5c,D7s⟩
 obtain⟨wg,_,og,oj,kf⟩:=mh.go1
 have WC6:B1h K mg "HalfEven" W6 CW:=⟨mg_of X G G8v,D7k,J3y,D4q,sn,tk,D7y,D5a⟩
 have J4c:Mk0 K W7:=⟨D4u,D6m,D5s⟩
 obtain⟨wj,_,om,on,kg⟩:=mi.go1
 have WC7:B1h K mg "FiveUp" W7 CW:=⟨mg_of X G G9w,D4s,J4c,D6x,sn,tk,D8e,D5r⟩
 let cw:Wy ->Addr:=fun y=>match y with| .down=>W0| .up=>W1| .floor=>W2| .ceiling=>W3| .halfUp=>W4| .halfDown=>W5| .halfEven=>W6| .fiveUp=>W7
 have W:∀y:Wy,B1h K mg y.cls (cw y) CW:=fun y=>match y with| .down=>WC0| .up=>WC1| .floor=>WC2| .ceiling=>WC3| .halfUp=>WC4| .halfDown=>WC5| .halfEven=>WC6| .fiveUp=>WC7
 have qb:=A3g (st:=B5x) D8b D6g D9t
 have J4q:=qb.binds (ps:=["self","kind","sign","figures","power"]) fun _ _ _ _ _ _ us hl=>match us,hl with| [_,_,_,_,_],_=>rfl
 have J7r:Mk K CN B6m:=⟨D9v,D5p,D7q,D7r⟩
 have N:Num K mg CN:=⟨mg_of X G J0e,D6a,B0k,B0g,A4w,A7u,D8k,sn,tk,D5y,B8x⟩
 obtain⟨sw,_,dj,dk,cb⟩:=cr.go4
 obtain⟨uk,_,i9,ia,dm⟩:=h7.go2
 obtain⟨s_,_,dw,dy,cf⟩:=cx.go4
 obtain⟨ul,_,ib,ic,dz⟩:=h8.go2
 obtain⟨t8,_,d_,eg,cg⟩:=cy.go4
 obtain⟨um,_,ie,ig,eh⟩:=h9.go2
 obtain⟨t9,_,em,e_,ci⟩:=cz.go4
 obtain⟨uo,_,ii,ij,g8⟩:=h_.go2
 obtain⟨tf,_,g9,gc,cj⟩:=c_.go4
 obtain⟨ur,_,ik,il,gd⟩:=i0.go2
 obtain⟨tj,_,gi,gj,cm⟩:=d4.go4
 obtain⟨uw,_,im,io,gk⟩:=i4.go2
 obtain⟨tm,_,gl,gm,cn⟩:=d7.go4
 obtain⟨ux,_,ip,iq,gn⟩:=i5.go2
 obtain⟨tu,_,gp,gq,cp⟩:=d8.go4
 obtain⟨uy,_,ir,iu,gr⟩:=i6.go2
 have J4z:=B7r (st:=A0x) D9g D4z D9n
 have J7q:Mk K CC B6p:=⟨D9s,D4p,D6t,D5d⟩
 obtain⟨vd,_,kh,ki,iw⟩:=jp.go1
 obtain⟨uz,_,iy,iz,gu⟩:=i7.go1
 obtain⟨xb,_,pk,pp,oo⟩:=pj.go1
 obtain⟨u_,_,i_,j0,gv⟩:=i8.go2
 obtain⟨ve,_,kj,kl,j1⟩:=jq.go1
 have J4j:=B7r (st:=A3z) D7b D8p D6d
 have J7s:Mk K CQ B6k:=⟨D7n,D6k,D5t,D4n⟩
 obtain⟨km,_,kn,ko,j3⟩:=jr.go1
 obtain⟨rc,_,rd,jj,gw⟩:=r9.go2
 have xk3:C1b K C3:=⟨xga3,xgh3,xca3,sn,tk,xob3,xbe3,by rw[xcl3];rfl⟩
 have nkT:nsOkIn K NT=true:=by unfold nsOkIn;rw[lN];exact alN
 have tlT:tailIn K C5w bmT=true:=by
   have z:=q1
   unfold excIn at z
   rw[lT1] at z
   simp only[excClassObj,Bool.and_eq_true] at z
   exact z.1.1.2
 have tx:=A3g (st:=A6c) G4e G9a G8t
 have J7t:=tx.binds (ps:=["self","signal"]) fun _ _ _ _ _ _ us hl=>match us,hl with| [_,_],_=>rfl
 have XI3:C9k K C3 fX:=⟨⟨_,_,_,_,_,_,_,_,_,_,_,_,_,_,_,lT,nkT,niT,tlT⟩,⟨_,G4e,fcT⟩,saT,xob3⟩
 have SG:D4h K mg aS:=⟨mg_of X G a_S,⟨_,lS,rfl⟩,fun H=> .inr ⟨_,_,_,lS,rfl,rfl,C7 (by show 7<=1000;decide),.cons ⟨_,rfl⟩ (.cons ⟨_,rfl⟩ (.cons ⟨_,rfl⟩ (.cons ⟨_,rfl⟩ (.cons ⟨_,rfl⟩ (.cons ⟨_,rfl⟩ (.cons ⟨_,rfl⟩ (.nil)))))))⟩⟩
 obtain⟨wk,_,ot,ou,kt⟩:=mj.go2
 obtain⟨vf,_,ku,kz,j4⟩:=jt.go1
 have J4e:=B7r (st:=A4p) D8t D5j D9h
 have J7u:Mk K RO B6n:=⟨D6n,D8q,D9b,D8f⟩
 obtain⟨k_,_,l5,l6,j5⟩:=ju.go1
 obtain⟨re,_,rf,rg,pq⟩:=rb.go2
 have C:B0d K mg CC:=⟨mg_of X G G8h,D7v,B0j,B0m,A7t,B0h,A7r,A4x⟩
 have B1:Err K mg "BadContext" C1:=⟨mg_of X G J0g,q1⟩
 have B2:Err K mg "BadNumber" C2:=⟨mg_of X G G9q,q2⟩
 have R:B8w K mg CQ CE:=⟨mg_of X G G9z,mg_of X G G4f,D5e,B4r,A5z,A7q,D8d,sn,tk,D8y,D7h⟩
 have b4:=B3d (fd:=fnOf "__init__" "Context.__init__" (J9 A0x) (J0 A0x) (A7 A0x) (.ref D5w) D8c D9c D7e D6u C3q D5f) (ps:=["self","room","way","least","most"]) (ds:=[]) rfl D6q rfl fun us hl=>by obtain⟨a,b,c,d,e,rfl⟩:=J6h (C1w hl);exact⟨_,rfl,rfl⟩
 refine⟨fnOf "law" "law" (J9 B6t) (J0 B6t) (A7 B6t) .none D4t D7p D8g D8h C3p D9k,fun s v=> .of_eq rfl,fun base _ _=>?_⟩
 have WN:∀y:Wy,G6a l.prog w K mg base (cw y) y.name:=fun y=>match y with| .down=>⟨_,_,jz,J3r n8,ng⟩| .up=>⟨_,_,j_,J0j ni,nj⟩| .floor=>⟨_,_,ka,J1f nk,no⟩| .ceiling=>⟨_,_,kc,J3n ny,n_⟩| .halfUp=>⟨_,_,kd,J0x o0,o8⟩| .halfDown=>⟨_,_,ke,J1q o9,oe⟩| .halfEven=>⟨_,_,kf,J1e og,oj⟩| .fiveUp=>⟨_,_,kg,J1w om,on⟩
 have U:∀y:Wy,J2s l.prog w K mg base (cw y) y:=fun y=>match y with| .down=>⟨_,_,cb,J0w dj,dk⟩| .up=>⟨_,_,cf,J2y dw,dy⟩| .floor=>⟨_,_,cg,J1c d_,eg⟩| .ceiling=>⟨_,_,ci,J2a em,e_⟩| .halfUp=>⟨_,_,cj,J0y g9,gc⟩| .halfDown=>⟨_,_,cm,J3f gi,gj⟩| .halfEven=>⟨_,_,cn,J1h gl,gm⟩| .fiveUp=>⟨_,_,cp,J2u gp,gq⟩
 have E2:∀y:Wy,J0t l.prog w K mg base (cw y) y:=fun y=>match y with| .down=>⟨_,_,dm,J2j i9,ia⟩| .up=>⟨_,_,dz,J1s ib,ic⟩| .floor=>⟨_,_,eh,J1g ie,ig⟩| .ceiling=>⟨_,_,g8,J1z ii,ij⟩| .halfUp=>⟨_,_,gd,J1r ik,il⟩| .halfDown=>⟨_,_,gk,J1y im,io⟩| .halfEven=>⟨_,_,gn,J2c ip,iq⟩| .fiveUp=>⟨_,_,gr,J0u ir,iu⟩
 have Gb:=C1h (P:=l.prog) (w:=w) (base:=base) c7 jv O T B1
 have Gw:=D2u (P:=l.prog) (w:=w) (base:=base) bw O T B1 W
 have MC:G4t l.prog w K mg base CC C1 B6p _:=⟨J7q,C1v J4z c7 bw Gb Gw C W WN⟩
 have MR : C1c l.prog w K mg base CQ B6k (fnOf "__init__" "Ratio.__init__" (J9 A3z) (J0 A3z) (A7 A3z) (.ref D9p) D9w D9a D5h D9r C3n D5b) (.int 0 G4x) (fun us ws=>match ws with| [a]=>us++ [a]|_=>[]) (fun us ws=>match ws with| [a]=>us++ [a]|_=>[]):=
   { m :=J7s
     g:=D0m J4j R
     b3:=B3d rfl C1e rfl fun us hl=>by obtain⟨a,b,c,d,rfl⟩:=J2p (C1w hl);exact⟨_,rfl,rfl⟩
     b2:=B3d rfl C1e rfl fun us hl=>by obtain⟨a,b,c,rfl⟩:=G1g (C1w hl);exact⟨_,rfl,rfl⟩
     r0:=⟨_,rfl⟩
     kP := ⟨(fun s us ws XK hl=>by
         rcases ws with _|⟨p,_|⟨q,t⟩⟩
         . cases hl
         . obtain⟨a,b,c,rfl⟩:=G1g (C1w hl)
           exact binds_K XK rfl C1e rfl rfl rfl
         . cases hl),fun r z=>match z with
       | .cons a .nil=>r.append (.cons a .nil)
       | .nil=> .nil
       | .cons _ (.cons _ _)=> .nil⟩
     eP:=fun _ _ _ _=>rfl}
 have M:A6v l.prog w K mg base CN B6m _:=⟨J7r,G1u qb N,J4q⟩
 have Gn:=D3d (P:=l.prog) (w:=w) (base:=base) bx O T B1 SG
 have Go:=D0v (P:=l.prog) (w:=w) (base:=base) bz SG
 have GX:=C8f (P:=l.prog) (w:=w) (mg:=mg) (base:=base) tx XI3 nsg3
 have MF:Has l.prog w K mg base CC "flags" 1 ["self"] (A6x CC):=⟨_,_,iw,C0u kh C O,ki⟩
 have ML:Has l.prog w K mg base CC "lowest" 1 ["self"] (B4g CC):=⟨_,_,gu,C6z iy C,iz⟩
 have MW:Has l.prog w K mg base CC "way" 2 ["self"] (B2e CC cw):=⟨_,_,oo,C7m pk bw Gw C,pp⟩
 have ME:Has l.prog w K mg base CC "clear" 1 ["self"] (A7p CC):=⟨_,_,j1,C0a kj C,kl⟩
 have MD:Has l.prog w K mg base CC "raised" 3 ["self","names"] (B2x K CC C1 C3):=⟨_,_,gv,C8h i_ bx Gn bz Go C (mg_of X G G4g) XI3 GX J7t,j0⟩
 have CM:A6n l.prog w K mg base CC C1 C3 CW cw:=⟨C,MW,ML,MD,W,U,E2⟩
 have bv:=B9p (P:=l.prog) (w:=w) (base:=base) am O T B2 N
 have qc:=G1q (P:=l.prog) (w:=w) (base:=base) d9 am O T B2 N
 have tz:=D1n (P:=l.prog) (w:=w) (base:=base) j6 c5 jv O T B2 N M
 have l7:=G7n (P:=l.prog) (w:=w) (base:=base) bu c5 jv O T B2 N M
 have aj:=C2z (P:=l.prog) (w:=w) (base:=base) ac N M
 have vg:=G2s (P:=l.prog) (w:=w) (base:=base) ml O N
 have Gto:=D3v (P:=l.prog) (w:=w) (base:=base) aa bc (B8e bc)
 have qd:=C7t (P:=l.prog) (w:=w) (base:=base) bi
 have Gwl:=D1f (P:=l.prog) (w:=w) (base:=base) b6 aa Gto
 have Gat:=G5d (P:=l.prog) (w:=w) (base:=base) rd aa Gto bi qd R O
 have RM:J3v l.prog w K mg base CQ km rc _ _:=⟨j3,C8a kn b6 Gwl gw Gat jj R,ko,gw,Gat,jj⟩
 have t_:=C2p (P:=l.prog) (w:=w) (base:=base) ay N M
 have u7:=B8n (P:=l.prog) (w:=w) (base:=base) au CM
 have u8:=C8m (P:=l.prog) (w:=w) (base:=base) bq aa Gto CM N M
 have u9:=C6y (P:=l.prog) (w:=w) (base:=base) br ml vg CM N
 have xc:=D2v (P:=l.prog) (w:=w) (base:=base) j8 aa Gto CM N M
 have ua:=D0j (P:=l.prog) (w:=w) (base:=base) b_ j8 xc bu l7 CM
 have Gsr:=C2c (P:=l.prog) (w:=w) (base:=base) az
 have Gsl:=C2d (P:=l.prog) (w:=w) (base:=base) a_ CM
 have c4:=C8t (P:=l.prog) (w:=w) (base:=base) af CM N M O
 have RQ:C9j K mg RO CE:=⟨mg_of X G G9x,mg_of X G G4f,D8m,B4q,A7s,D9u,sn,tk,D6e,D9q⟩
 have MQ : G4u l.prog w K mg base RO B6n (fnOf "__init__" "Root.__init__" (J9 A4p) (J0 A4p) (A7 A4p) (.ref D6v) D8j D8w D5v D5u C3r D6y) (.int 0 G4y) (fun us ws=>match ws with| [a]=>us++ [a]|_=>[]) (fun us ws=>match ws with| [a]=>us++ [a]|_=>[]):=
   { m :=J7u
     g:=D3p J4e RQ
     b3:=B3d rfl C1f rfl fun us hl=>by obtain⟨a,b,c,rfl⟩:=G1g (C1w hl);exact⟨_,rfl,rfl⟩
     b2:=B3d rfl C1f rfl fun us hl=>by obtain⟨a,b,rfl⟩:=G5x (C1w hl);exact⟨_,rfl,rfl⟩
     r0:=⟨_,rfl⟩
     kP := ⟨(fun s us ws XK hl=>by
         rcases ws with _|⟨p,_|⟨q,t⟩⟩
         . cases hl
         . obtain⟨a,b,rfl⟩:=G5x (C1w hl)
           exact binds_K XK rfl C1f rfl rfl rfl
         . cases hl),fun r z=>match z with
       | .cons a .nil=>r.append (.cons a .nil)
       | .nil=> .nil
       | .cons _ (.cons _ _)=> .nil⟩
     eP:=fun _ _ _=>rfl}
 have QM:J3w l.prog w K mg base RO k_ re _ _:=⟨j5,C7n l5 b6 Gwl RQ,l6,pq,G5s rf aa Gto bi qd j7 (D1x j7 aa Gto b6 Gwl) RQ O,rg⟩
 have XR:=J5w RM R
 have XQ:=J7h QM RQ
 have GsR:=B0p (CE:=CE) (P:=l.prog) (w:=w) (base:=base) ae aw (B4h (CE:=CE) aw CM XR O) ay t_ au u7 bq u8 br u9 b_ ua az Gsr a_ Gsl CM XR N
 have GsQ:=B0p (CE:=CE) (P:=l.prog) (w:=w) (base:=base) ae aw (B4h (CE:=CE) aw CM XQ O) ay t_ au u7 bq u8 br u9 b_ ua az Gsr a_ Gsl CM XQ N
 have l8:A8 l.prog w K mg base (CX1 l.prog w) 6 c8 _ ["context","sign","exact","ideal"] (A1n CN CC C3 CQ):=A8.weak (fun _ _ _ _ h=>B9f h) GsR
 have vh:A8 l.prog w K mg base (CX1 l.prog w) 6 c8 _ ["context","sign","exact","ideal"] (B2a CN CC C3 CQ RO):=A8.both GsR GsQ
 have b8:=C7r (P:=l.prog) (w:=w) (base:=base) ai am bv
 have ap:=D1a (P:=l.prog) (w:=w) (base:=base) ag O N
 have Gun:=C7b (P:=l.prog) (w:=w) (base:=base) av N
 have Gvo:=G3t (P:=l.prog) (w:=w) (base:=base) b5 ac aj CM
 have Gsp:=D0d (P:=l.prog) (w:=w) (base:=base) j9 bu l7 CM
 have xf:=G1a (P:=l.prog) (w:=w) (base:=base) mr av Gun b5 Gvo bu l7 af c4 j9 Gsp N
 have Gov:=G1j (P:=l.prog) (w:=w) (base:=base) mn ai b8 ag ap mq (G3u mq N) mr xf av Gun af c4 ae l8 ac aj CM N MR R
 have ub:=B9k (P:=l.prog) (w:=w) (base:=base) ak aa Gto N
 have Gwp:=B6z (P:=l.prog) (w:=w) (base:=base) bd ak ub N O
 have xg:=C7z (CB:=C1) (CW:=CW) (cw:=cw) (P:=l.prog) (w:=w) (base:=base) aq am bv af c4 ae l8 MR R N
 have Gre:=C8e (P:=l.prog) (w:=w) (base:=base) db ai b8 ag ap ac aj b5 Gvo aq xg bd Gwp aa Gto ak ub CM N M O
 have vi:=G3w (P:=l.prog) (w:=w) (base:=base) ms am bv ac aj af c4 b5 Gvo ae vh N MQ RQ
 have Gwa:=C1r (P:=l.prog) (w:=w) (base:=base) ak aa Gto N
 have xi:=C6t (P:=l.prog) (w:=w) (base:=base) dc ag ap jw
 have xj:=G0t (P:=l.prog) (w:=w) (base:=base) c9 ag ap av Gun bu l7 N M
 have xk:=D3b (P:=l.prog) (w:=w) (base:=base) jc CM WN N
 have xl:=D1p (P:=l.prog) (w:=w) (base:=base) jb ag ap jx ak Gwa af c4 jc xk ae l8 CM N MR R O
 have xm:=C7g (CB:=C1) (CW:=CW) (cw:=cw) (P:=l.prog) (w:=w) (base:=base) aq am bv af c4 ae l8 MR R N
 have vj:=G0r (P:=l.prog) (w:=w) (base:=base) mv ai b8 ag ap ac aj jb xl
 have uc:=D3e (P:=l.prog) (w:=w) (base:=base) ja ai b8 ag ap ac aj aq xm dc xi c9 xj b5
 have vk:=G2w (P:=l.prog) (w:=w) (base:=base) mw O
 have pr:=D3y (P:=l.prog) (w:=w) (base:=base) b7
 have b9:=G0f (P:=l.prog) (w:=w) (base:=base) ao O
 have vm:=G0e (P:=l.prog) (w:=w) (base:=base) mx b7 pr ao b9 O
 have xp:=C8r (P:=l.prog) (w:=w) (base:=base) df
 have xr:=C8w (P:=l.prog) (w:=w) (base:=base) dg b7 pr mx vm
 have xt:=G0w (P:=l.prog) (w:=w) (base:=base) my MC b4 C
 have pz:=C9e (P:=l.prog) (w:=w) (base:=base) ax
 have xu:=C6r (P:=l.prog) (w:=w) (base:=base) dh
 have ue:=G6g (P:=l.prog) (w:=w) (base:=base) jy ao b9 dh xu O
 have xv:=D0f (P:=l.prog) (w:=w) (base:=base) jd ax pz jy ue
 have xw:=D3j (P:=l.prog) (w:=w) (base:=base) je
 have xx:=C9c (P:=l.prog) (w:=w) (base:=base) di ao b9
 have p_:=C2t (P:=l.prog) (w:=w) (base:=base) ar O
 have qa:=C0x (P:=l.prog) (w:=w) (base:=base) al jd xv jy ue je xw ao b9 ax pz di xx O
 have xy:=C8d (P:=l.prog) (w:=w) (base:=base) jg ao b9 ar p_ ax pz al qa O
 have xz:=C8v (P:=l.prog) (w:=w) (base:=base) jf ar p_ al qa
 have x_:=G0b (P:=l.prog) (w:=w) (base:=base) mz ao b9 jg xy jf xz ar p_ al qa O
 have RT:C6k K mg C3 CR:=⟨mg_of X G G4g,mg_of X G G8y,⟨tyT,by unfold clsIn;rw[lT];rfl,xbe3⟩,subT,xk3,⟨_,by unfold clsIn;rw[lT],rfl⟩,nsg3,kTR,hv3⟩
 have MT:Has l.prog w K mg base CC "trap" 2 ["self","names"] (C1z K CC C1):=⟨_,_,kt,G0d ot bx Gn bz Go C,ou⟩
 have MTS:Has l.prog w K mg base CC "traps" 1 ["self"] (A6z CC):=⟨_,_,j4,C0c ku C O,kz⟩
 have y0:=D2b (P:=l.prog) (w:=w) (base:=base) jh j6 tz mv vj ja uc mn Gov ms vi db Gre RT O
 have vn:=G2z (P:=l.prog) (w:=w) (base:=base) m_ SG C ME MT O
 have uf:=D2m (P:=l.prog) (w:=w) (base:=base) ji d9 qc SG C MF MTS T O
 exact G6q J5a mw vk b7 pr df xp dg xr my xt mz x_ jh y0 m_ vn ji uf d9 qc T O
theorem walk{l:OpenLaw}{q:Program}{loose:List Str}{XP:(Str ->Option Value) ->Heap ->Prop}{YP:World ->Heap ->Prop}{d:DefRec}{K:Params ->Frag}(hn:l.most=some 63)(hdf:d.params.defaults=[])
   (hY:∀(w:World) (h:Heap),YP w h ->(K w.params).In h)
   (F:∀(w:World) (mg:Str ->Option Value) (fa:Addr) (h:Heap),(K w.params).In h ->h.Ns mainGlobals mg ->mg d.name=some (.ref fa) ->
     ∃fd:FuncData,(∀(s:Shared) (u:Value),BindsTo s fd ⟨[u],[]⟩ [("_law_script",u)])/\∀base:Heap,(K w.params).In base ->base.Ns mainGlobals mg ->A8 l.prog w (K w.params) mg base (CX1 l.prog w) 10 fa fd ["_law_script"] ((C6e (K w.params)))):
   WalkO q loose XP YP l.row.toRowW d [] (fun f vs=>PySem.call f vs):=
 L2.walk_of (n:=63) (k:=10) (x:="_law_script") (CX:=fun w=>CX1 l.prog w) (sp:=fun w=>(C6e (K w.params))) hn (by decide) hdf ⟨rfl,by decide,by decide⟩ hY F (fun _ _ a ns hl _ hS=>⟨a,ns,rfl,hl,hS,fun _=>rfl⟩) fun _ _ _ _ _ z=>by
   obtain⟨_,_,_,_,_,_,_,_,_,_,z,_⟩:=z
   exact z
end TR
open PySem PySem.W PyProof.Rows
set_option maxRecDepth 100000 in
set_option maxHeartbeats 0 in
theorem PySem.Challenge.cw_tenreckon_k36_whole_rows_of_deeds_holds : PySem.Challenge.rw_tenreckon_k36_whole_rows_of_deeds.Holds := by
 refine hd ?_
 k_fill
 refine TR.walk (l := PySem.Challenge.rw_tenreckon_k36_whole_rows_of_deeds) rfl rfl (fun w h Y => PySem.W.kIn_of Y) ?F
 case F =>
   intro w mg fa h KX G hmg
   refine' TR.all_mk KX G hmg ?Zgz ?Zqe ?Zqf ?Zv5 ?Zla ?Zrh ?Zrj ?Zqg ?Zjk ?Zqh ?Zow ?Zlc ?Zv6 ?Zle ?Zqi ?Zlh ?Zqj ?Zqk ?Zoz ?Zql ?Zqm ?Zlj ?Zo_ ?Zlm ?Zg_ ?Zp5 ?Zp6 ?Zqo ?Zqp ?Zln ?Zlr ?Zp7 ?Zrn ?Zqq ?Zlu ?Zro ?Zp8 ?Zrp ?Zrq ?Zh6 ?Zr_ ?Zsf ?Zqr ?Zjm ?Zp9 ?Zly ?Zqt ?Zjn ?Zqu ?Zsh ?Zqv ?Zsj ?Zsk ?Zpc ?Zss ?Zpd ?Zpf ?Zph ?Zv7 ?Zqw ?Zqx ?Zpi ?Zjo ?Zl_ ?Zqy ?Zqz ?Zsu ?Zq_ ?Zsv ?Zr8 ?ZC6m ?ZD7d ?ZD5g ?ZD5m ?Zv8 ?ZT ?Zsn ?Ztk ?ZJ4s ?ZG9b ?ZD7c ?ZD5k ?ZD7t ?ZD4y ?ZD6b ?ZD4w ?ZD8r ?Zm6 ?ZG9r ?ZD4m ?ZD7u ?ZD6p ?ZD8s ?ZD9d ?ZD9e ?ZD8a ?Zm7 ?ZG9g ?ZD8v ?ZD9f ?ZD6h ?ZD6w ?ZD9j ?ZD5n ?ZD8n ?Zm8 ?ZG8q ?ZD7j ?ZD4v ?ZD5q ?ZD8u ?ZD6j ?ZD4x ?ZD7g ?Zm9 ?ZG9m ?ZD6z ?ZD5z ?ZD4r ?ZD6c ?ZD6f ?ZD6s ?ZD7m ?Zma ?ZG9h ?ZD7a ?ZD8x ?ZD7x ?ZD7w ?ZD8z ?ZD7f ?ZD6r ?Zmd ?ZG8v ?ZD7k ?ZD5x ?ZD7s ?ZD4q ?ZD7y ?ZD5c ?ZD5a ?Zmh ?ZG9w ?ZD4s ?ZD4u ?ZD5s ?ZD6x ?ZD8e ?ZD6m ?ZD5r ?Zmi ?ZJ0e ?ZD6a ?ZD9v ?ZD7r ?ZD8k ?ZD5y ?ZB0k ?ZB0g ?ZA4w ?ZA7u ?ZD5p ?ZD7q ?ZD8b ?ZD6g ?ZD9t ?ZB8x ?Zcr ?Zh7 ?Zcx ?Zh8 ?Zcy ?Zh9 ?Zcz ?Zh_ ?Zc_ ?Zi0 ?Zd4 ?Zi4 ?Zd7 ?Zi5 ?Zd8 ?Zi6 ?ZG8h ?ZD7v ?ZD9s ?ZD5d ?ZB0j ?ZB0m ?ZA7t ?ZB0h ?ZA7r ?ZA4x ?ZD4p ?ZD6t ?ZD9g ?ZD4z ?ZD9n ?ZD6q ?Zjp ?Zi7 ?Zpj ?Zi8 ?Zjq ?ZG9z ?ZD5e ?ZD7n ?ZD4n ?ZD8d ?ZD8y ?ZB4r ?ZA5z ?ZA7q ?ZD6k ?ZD5t ?ZD7b ?ZD8p ?ZD6d ?ZC1e ?Zjr ?Zr9 ?ZG4f ?ZD7h ?ZJ0g ?ZG9q ?ZG4g ?ZG8y ?Zcty ?Zccl ?Zcex ?Zsub3 ?Zxga3 ?Zxgh3 ?Zxca3 ?Zxob3 ?Zxbe3 ?Zxcl3 ?ZJ4x ?ZJ4a ?ZJ4b ?Zhv3 ?ZlT ?ZlN ?ZalN ?ZniT ?ZlT1 ?ZsaT ?Znsg3 ?ZG4e ?ZG9a ?ZG8t ?ZfcT ?ZkTR ?Zq1 ?Zq2 ?Za_S ?ZlS ?Zmj ?Zjt ?ZtyT ?ZsubT ?ZG9x ?ZD8m ?ZD6n ?ZD8f ?ZD9u ?ZD6e ?ZB4q ?ZA7s ?ZD8q ?ZD9b ?ZD8t ?ZD5j ?ZD9h ?ZC1f ?Zju ?Zrb ?ZD9q
   case Zgz | Zqe | Zqf | Zv5 | Zla | Zrh | Zrj | Zqg | Zjk | Zqh | Zow | Zlc | Zv6 | Zle | Zqi | Zlh | Zqj | Zqk | Zoz | Zql | Zqm | Zlj | Zo_ | Zlm | Zg_ | Zp5 | Zp6 | Zqo | Zqp | Zln | Zlr | Zp7 | Zrn | Zqq | Zlu | Zro | Zp8 | Zrp | Zrq | Zh6 => (refine' TR.Fa.mk ?a ?l ?c ?k; (case a => k_is); (case l => k_is); (case c => k_is); (case k => k_is))
   case Zr_ | Zsf | Zqr | Zjm | Zp9 | Zly | Zqt | Zjn | Zqu | Zsh | Zqv | Zsj | Zsk | Zpc | Zss | Zpd | Zpf | Zph | Zv7 | Zqw | Zqx | Zpi | Zjo | Zl_ | Zqy | Zqz | Zsu | Zq_ | Zsv | Zr8 => (refine' TR.Fa.mk ?a ?l ?c ?k; (case a => k_is); (case l => k_is); (case c => k_is); (case k => k_is))
   case ZC6m | ZD7d | ZD5g | ZD5m => k_is
   case Zv8 => constructor <;> k_is
   case ZT => constructor <;> kit_is
   case Zsn | Ztk | ZJ4s | ZG9b => k_is
   case ZD7c => constructor <;> k_is
   case ZD5k | ZD7t | ZD4y | ZD6b | ZD4w => k_is
   case ZD8r => kit_is
   case Zm6 => (refine' TR.Fb.mk ?a ?i ?l ?c ?k; (case a => k_is); (case i => k_is); (case l => k_is); (case c => k_is); (case k => k_is))
   case ZG9r => k_is
   case ZD4m => constructor <;> k_is
   case ZD7u | ZD6p | ZD8s | ZD9d | ZD9e => k_is
   case ZD8a => kit_is
   case Zm7 => (refine' TR.Fb.mk ?a ?i ?l ?c ?k; (case a => k_is); (case i => k_is); (case l => k_is); (case c => k_is); (case k => k_is))
   case ZG9g => k_is
   case ZD8v => constructor <;> k_is
   case ZD9f | ZD6h | ZD6w | ZD9j | ZD5n => k_is
   case ZD8n => kit_is
   case Zm8 => (refine' TR.Fb.mk ?a ?i ?l ?c ?k; (case a => k_is); (case i => k_is); (case l => k_is); (case c => k_is); (case k => k_is))
   case ZG8q => k_is
   case ZD7j => constructor <;> k_is
   case ZD4v | ZD5q | ZD8u | ZD6j | ZD4x => k_is
   case ZD7g => kit_is
   case Zm9 => (refine' TR.Fb.mk ?a ?i ?l ?c ?k; (case a => k_is); (case i => k_is); (case l => k_is); (case c => k_is); (case k => k_is))
   case ZG9m => k_is
   case ZD6z => constructor <;> k_is
   case ZD5z | ZD4r | ZD6c | ZD6f | ZD6s => k_is
   case ZD7m => kit_is
   case Zma => (refine' TR.Fb.mk ?a ?i ?l ?c ?k; (case a => k_is); (case i => k_is); (case l => k_is); (case c => k_is); (case k => k_is))
   case ZG9h => k_is
   case ZD7a => constructor <;> k_is
   case ZD8x | ZD7x | ZD7w | ZD8z | ZD7f => k_is
   case ZD6r => kit_is
   case Zmd => (refine' TR.Fb.mk ?a ?i ?l ?c ?k; (case a => k_is); (case i => k_is); (case l => k_is); (case c => k_is); (case k => k_is))
   case ZG8v => k_is
   case ZD7k => constructor <;> k_is
   case ZD5x | ZD7s | ZD4q | ZD7y | ZD5c => k_is
   case ZD5a => kit_is
   case Zmh => (refine' TR.Fb.mk ?a ?i ?l ?c ?k; (case a => k_is); (case i => k_is); (case l => k_is); (case c => k_is); (case k => k_is))
   case ZG9w => k_is
   case ZD4s => constructor <;> k_is
   case ZD4u | ZD5s | ZD6x | ZD8e | ZD6m => k_is
   case ZD5r => kit_is
   case Zmi => (refine' TR.Fb.mk ?a ?i ?l ?c ?k; (case a => k_is); (case i => k_is); (case l => k_is); (case c => k_is); (case k => k_is))
   case ZJ0e => k_is
   case ZD6a => constructor <;> k_is
   case ZD9v | ZD7r | ZD8k | ZD5y | ZB0k | ZB0g | ZA4w | ZA7u | ZD5p | ZD7q | ZD8b | ZD6g | ZD9t => k_is
   case ZB8x => kit_is
   case Zcr | Zh7 | Zcx | Zh8 | Zcy | Zh9 | Zcz | Zh_ | Zc_ | Zi0 | Zd4 | Zi4 | Zd7 | Zi5 | Zd8 | Zi6 => (refine' TR.Fb.mk ?a ?i ?l ?c ?k; (case a => k_is); (case i => k_is); (case l => k_is); (case c => k_is); (case k => k_is))
   case ZG8h => k_is
   case ZD7v => constructor <;> k_is
   case ZD9s | ZD5d | ZB0j | ZB0m | ZA7t | ZB0h | ZA7r | ZA4x | ZD4p | ZD6t | ZD9g | ZD4z | ZD9n | ZD6q => k_is
   case Zjp | Zi7 | Zpj | Zi8 | Zjq => (refine' TR.Fb.mk ?a ?i ?l ?c ?k; (case a => k_is); (case i => k_is); (case l => k_is); (case c => k_is); (case k => k_is))
   case ZG9z => k_is
   case ZD5e => constructor <;> k_is
   case ZD7n | ZD4n | ZD8d | ZD8y | ZB4r | ZA5z | ZA7q | ZD6k | ZD5t | ZD7b | ZD8p | ZD6d | ZC1e => k_is
   case Zjr | Zr9 => (refine' TR.Fb.mk ?a ?i ?l ?c ?k; (case a => k_is); (case i => k_is); (case l => k_is); (case c => k_is); (case k => k_is))
   case ZG4f => k_is
   case ZD7h => kit_is
   case ZJ0g | ZG9q | ZG4g | ZG8y | Zcty | Zccl | Zcex | Zsub3 | Zxga3 | Zxgh3 | Zxca3 | Zxob3 | Zxbe3 | Zxcl3 => k_is
   case ZJ4x | ZJ4a | ZJ4b | Zhv3 => kit_is
   case ZlT | ZlN => k_is
   case ZalN => simp
   case ZniT | ZlT1 | ZsaT | Znsg3 | ZG4e | ZG9a | ZG8t => k_is
   case ZfcT => rfl
   case ZkTR => kit_is
   case Zq1 | Zq2 => k_exc
   case Za_S | ZlS => k_is
   case Zmj | Zjt => (refine' TR.Fb.mk ?a ?i ?l ?c ?k; (case a => k_is); (case i => k_is); (case l => k_is); (case c => k_is); (case k => k_is))
   case ZtyT | ZsubT | ZG9x => k_is
   case ZD8m => constructor <;> k_is
   case ZD6n | ZD8f | ZD9u | ZD6e | ZB4q | ZA7s | ZD8q | ZD9b | ZD8t | ZD5j | ZD9h | ZC1f => k_is
   case Zju | Zrb => (refine' TR.Fb.mk ?a ?i ?l ?c ?k; (case a => k_is); (case i => k_is); (case l => k_is); (case c => k_is); (case k => k_is))
   case ZD9q => kit_is

