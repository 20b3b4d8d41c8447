import PyProof.Rows.All
import Wide.All
import OpenK.KLine
import OpenK.KOwn
import KE.RegKIsAll
import KE.KItem
import KE.LcSums
import KE.KPairTest
import Wide.FinOn
import Lean
import PyProof.EqAt
import PyProof.EqKinds
import PyProof.TupleCall
import PyProof.Rows.Catch
import PyProof.Rows.TupIter
import PyProof.TupleIter
import PyProof.Seq
import PyProof.ExcInit
import PyProof.ExcClass2
import KE.KIntText
import PyProof.StrOps2
import PyProof.ConsumeWalk
import PyProof.Rows.RuleM_int
import PyProof.ZipIter
import PyProof.EnumMake
import PyProof.Rows.TupAssign
import PyProof.Rows.Range3
import PyProof.DictWalks
import PyProof.DictUpdate
import PyProof.P3In
import PySem.Challenge.RW_tenreckon_k33_lines_refused
set_option Elab.async false
set_option linter.all false
set_option maxRecDepth 100000
namespace TR
open PySem PySem.W PyProof.Rows
noncomputable def foO (o:Obj):Option Obj:=match some o with
 |some ⟨_,_,.freed,_⟩=>none
 |o=>o
noncomputable def pkO (l:List Obj):List Nat ->List (Option Obj):=
 @List.rec Obj (fun _=>List Nat ->List (Option Obj)) (fun ds=> @List.rec Nat (fun _=>List (Option Obj)) [] (fun _ _ ih=>none::ih) ds)
   (fun o _ ih ds=> @List.rec Nat (fun _=>List (Option Obj)) [] (fun d ds' _=> @Nat.rec (fun _=>List (Option Obj)) (foO o::ih ds') (fun d' _=>ih (d'::ds')) d) ds) l
noncomputable def dlO (as:List Nat):Nat ->List Nat:=
 @List.rec Nat (fun _=>Nat ->List Nat) (fun _=>[]) (fun a _ ih i=>Nat.sub a i::ih (Nat.succ a)) as
noncomputable def upO (as:List Nat):Nat ->Bool:=
 @List.rec Nat (fun _=>Nat ->Bool) (fun _=>true) (fun a _ ih i=> @Bool.rec (fun _=>Bool) false (ih (Nat.succ a)) (Nat.ble i a)) as
theorem B8y{a:Nat}{as:List Nat}{i:Nat}(h:upO (a::as) i=true):i<=a/\upO as (a+1)=true:=by
 have e:upO (a::as) i= @Bool.rec (fun _=>Bool) false (upO as (a+1)) (Nat.ble i a):=rfl
 rw[e] at h
 cases q:Nat.ble i a with
 |false=>rw[q] at h;cases h
 |true=>rw[q] at h;exact⟨Nat.le_of_ble_eq_true q,h⟩
theorem C4g:∀as i,pkO [] (dlO as i)=as.map fun _=>none
 | [],_=>rfl
 | a::as,i=>by
   show none::pkO [] (dlO as (a+1))=none::as.map fun _=>none
   rw[C4g as (a+1)]
theorem C1h:∀(l:List Obj) (as:List Nat) (i:Nat),upO as i=true ->pkO l (dlO as i)=as.map fun a=>l[a-i]?.bind foO
 | [],as,i,_=>by rw[C4g];simp
 |o::l,[],i,_=>rfl
 | o ::l,a::as,i,h=>by
   obtain⟨h1,h2⟩:=B8y h
   have low:∀{bs:List Nat} {j:Nat},upO bs j=true ->∀b∈bs,j<=b:=by
     intro bs
     induction bs with
     |nil=>intro _ _ b hb;cases hb
     | cons c bs ih=>
       intro j hb b hm
       obtain⟨x,y⟩:=B8y hb
       cases hm with
       |head=>exact x
       |tail _ hm=>exact Nat.le_trans x (Nat.le_trans (Nat.le_succ _) (ih y b hm))
   cases e:a-i with
   | zero=>
     have:a=i:=by omega
     subst this
     have e1:pkO (o::l) (dlO (a::as) a)=foO o::pkO l (dlO as (a+1)):=by
       show @Nat.rec (fun _=>List (Option Obj)) (foO o::pkO l (dlO as (a+1))) (fun d' _=>pkO l (d'::dlO as (a+1))) (a-a)=_
       rw[Nat.sub_self]
       rfl
     rw[e1,C1h l as (a+1) h2]
     simp only[List.map_cons,Nat.sub_self,List.getElem?_cons_zero,Option.bind_some]
     congr 1
     refine List.map_congr_left fun b hb=>?_
     have:=low h2 b hb
     obtain⟨c,rfl⟩:∃c,b=a+1+c:=⟨b-(a+1),by omega⟩
     rw[show a+1+c-a=c+1 by omega,show a+1+c-(a+1)=c by omega];rfl
   | succ d=>
     have e1:pkO (o::l) (dlO (a::as) i)=pkO l (dlO (a::as) (i+1)):=by
       show @Nat.rec (fun _=>List (Option Obj)) (foO o::pkO l (dlO as (a+1))) (fun d' _=>pkO l (d'::dlO as (a+1))) (a-i)=pkO l ((a-(i+1))::dlO as (a+1))
       rw[e,show a-(i+1)=d by omega]
     have h3:upO (a::as) (i+1)=true:=by
       show @Bool.rec (fun _=>Bool) false (upO as (a+1)) (Nat.ble (i+1) a)=true
       rw[Nat.ble_eq_true_of_le (show i+1<=a by omega)];exact h2
     rw[e1,C1h l (a::as) (i+1) h3]
     refine List.map_congr_left fun b hb=>?_
     have:=low h3 b hb
     obtain⟨c,rfl⟩:∃c,b=i+1+c:=⟨b-(i+1),by omega⟩
     rw[show i+1+c-i=c+1 by omega,show i+1+c-(i+1)=c by omega];rfl
noncomputable def kHookQ (K:Params ->Frag) (as:List Addr) (e:∀P,as=(K P).map (·.1)) (u:upO as 0=true):Hook:=
 ⟨List (Option Obj),fun s=>pkO s.heap.objs.toList (dlO as 0),fun w=>(K w.params).map fun p=>some p.2,InK K,
  fun w s x=>InK.of e w s (by rw[<-x,C1h _ _ _ u];refine List.map_congr_left fun a _=>?_;rw[Nat.sub_zero,Array.getElem?_toList];show(match s.heap.objs[a]? with|some ⟨_,_,.freed,_⟩=>none|o=>o)=_;cases s.heap.objs[a]?<;>rfl),InK.keeps⟩
theorem kInQ_of{K:Params ->Frag}{as:List Addr}{e:∀P,as=(K P).map (·.1)}{u:upO as 0=true}{w:World}{h:Heap}(Y:(kHookQ K as e u).says w h):(K w.params).In h:=Y
end TR
namespace PySem.W.Fast
theorem tw7293274846405064500:True:=trivial
theorem tw5904680370603414319:True:=trivial
theorem tw6360962186427211742:True:=trivial
theorem tw17875547978579138504:True:=trivial
theorem tw861502493610598483:True:=trivial
theorem tw7103901088158463082:True:=trivial
theorem tw17282282480888754619:True:=trivial
theorem tw14848642603632901190:True:=trivial
theorem tw10966826456635412305:True:=trivial
theorem tw6449128278215917044:True:=trivial
theorem tw17643660023018599961:True:=trivial
theorem tw4435421394204515611:True:=trivial
theorem tw11081916062258291835:True:=trivial
theorem tw7774113678449685934:True:=trivial
theorem tw2250443682989827970:True:=trivial
theorem tw15446101056123623593:True:=trivial
theorem tw17558672424072788113:True:=trivial
theorem tw9483934198085756240:True:=trivial
theorem tw5065591819665991627:True:=trivial
theorem tw17718934823960014828:True:=trivial
theorem tw2305414408130554292:True:=trivial
theorem tw2495115493620250326:True:=trivial
theorem tw16099700438911077358:True:=trivial
theorem tw10412490514206232093:True:=trivial
theorem tw17829434514381053950:True:=trivial
theorem tw11070388883789476980:True:=trivial
theorem tw7903920360167114427:True:=trivial
theorem tw9076787650804036852:True:=trivial
theorem tw685176793378778422:True:=trivial
theorem tw6921103065077540406:True:=trivial
theorem tw4449799235075362730:True:=trivial
theorem tw5114918623987374716:True:=trivial
theorem tw7484994123860896570:True:=trivial
theorem tw10293081186089767411:True:=trivial
theorem tw7422445781565681216:True:=trivial
theorem tw14408862209902292549:True:=trivial
theorem tw15916013147842562308:True:=trivial
theorem tw3045536173889598909:True:=trivial
theorem tw5483103596317574428:True:=trivial
theorem tw9226953922699413809:True:=trivial
theorem tw651700358538967526:True:=trivial
theorem tw13084871767532281537:True:=trivial
theorem tw11313849827614793459:True:=trivial
theorem tw14939612678797562433:True:=trivial
theorem tw724307879160381300:True:=trivial
theorem tw1835201335921387983:True:=trivial
theorem tw7151132215420815488:True:=trivial
theorem tw3233987462203235646:True:=trivial
theorem tw4860023922305330110:True:=trivial
theorem tw14736888041290939073:True:=trivial
theorem tw8319933024895762948:True:=trivial
theorem tw8212203176049278890:True:=trivial
theorem tw6084841979344569690:True:=trivial
theorem tw9266374589662076923:True:=trivial
theorem tw866652123128751154:True:=trivial
theorem tw8432719020341155521:True:=trivial
theorem tw11408881796089955267:True:=trivial
theorem tw6864887910540207759:True:=trivial
theorem tw17525541185626968058:True:=trivial
theorem tw3255949116541119010:True:=trivial
theorem tw5277677811754103808:True:=trivial
theorem tw3374319085511977134:True:=trivial
theorem tw7033223617477252788:True:=trivial
theorem tw11485923223005469204:True:=trivial
theorem tw3501407184847187612:True:=trivial
theorem tw16080672043311297529:True:=trivial
theorem tw8743444353482975932:True:=trivial
theorem tw2754379104384642236:True:=trivial
theorem tw1692201390411429781:True:=trivial
theorem tw15163409612377130007:True:=trivial
theorem tw10953238642706405951:True:=trivial
theorem tw13936439389310444312:True:=trivial
theorem tw5378528727604396283:True:=trivial
theorem tw28018229315631829:True:=trivial
theorem tw11112856592854345388:True:=trivial
theorem tw8293125293789966914:True:=trivial
theorem tw855453113358079251:True:=trivial
theorem tw2990168724187919761:True:=trivial
theorem tw5240077947681225987:True:=trivial
theorem tw11280630913190679075:True:=trivial
theorem tw14727194681476072466:True:=trivial
theorem tw4102176305081739490:True:=trivial
theorem tw4699756791338806529:True:=trivial
theorem tw2781441929908095834:True:=trivial
theorem tw17483705464198625004:True:=trivial
theorem tw15126001764536088292:True:=trivial
theorem tw8332346137001284160:True:=trivial
theorem tw134869140600922118:True:=trivial
theorem tw14689541978594310382:True:=trivial
theorem tw11219443903484984970:True:=trivial
theorem tw17653592248189364939:True:=trivial
theorem tw13142635158332540280:True:=trivial
theorem tw17431205604353252913:True:=trivial
theorem tw13333588703604149420:True:=trivial
theorem tw5891704040020730945:True:=trivial
theorem tw13716781843517864737:True:=trivial
theorem tw4538635040379822027:True:=trivial
theorem tw17877845533520812795:True:=trivial
theorem tw2810200551564342888:True:=trivial
theorem tw18220031379085947620:True:=trivial
theorem tw12064304430848566033:True:=trivial
theorem tw8950108695139179302:True:=trivial
theorem tw17721149768220346479:True:=trivial
theorem tw16583815154217966991:True:=trivial
theorem tw3971525946579005399:True:=trivial
theorem tw16212330677787901120:True:=trivial
theorem tw11120740854625124088:True:=trivial
theorem tw10186303709888756887:True:=trivial
theorem tw4517560463748656503:True:=trivial
theorem tw555815775780349263:True:=trivial
theorem tw7882045510503734624:True:=trivial
theorem tw5462360663327728810:True:=trivial
theorem tw15418378422589880096:True:=trivial
theorem tw1495895850433845275:True:=trivial
theorem tw3717076922277056940:True:=trivial
theorem tw11837218909656210887:True:=trivial
theorem tw10052031235695348791:True:=trivial
theorem tw6701911527682315725:True:=trivial
theorem tw16947231599799070506:True:=trivial
theorem tw14074196154385387334:True:=trivial
theorem tw13114645530532618160:True:=trivial
theorem tw2310853497090360408:True:=trivial
theorem tw615563214671542189:True:=trivial
theorem tw15540911362017771936:True:=trivial
theorem tw17079817176256170043:True:=trivial
theorem tw17016834523296244275:True:=trivial
theorem tw18441984877410159329:True:=trivial
theorem tw6284410105664486691:True:=trivial
theorem tw14522782377427387804:True:=trivial
theorem tw13037224057902187189:True:=trivial
theorem tw12188032599808994241:True:=trivial
theorem tw6056707288978253535:True:=trivial
theorem tw8840235324560252208:True:=trivial
theorem tw3277229846650655979:True:=trivial
theorem tw15012102849882553082:True:=trivial
theorem tw6782663255696616371:True:=trivial
theorem tw16792556548410726896:True:=trivial
theorem tw8185545411690514434:True:=trivial
theorem tw7287071566680170395:True:=trivial
theorem tw5890639436620234070:True:=trivial
theorem tw9992116715903482975:True:=trivial
theorem tw4944497897694004105:True:=trivial
theorem tw640624198105042115:True:=trivial
theorem tw14715273107921467267:True:=trivial
theorem tw8981176238543900561:True:=trivial
theorem tw15528221797031607849:True:=trivial
theorem tw8285278889055680438:True:=trivial
theorem tw5872530126848033075:True:=trivial
theorem tw11707130962622978684:True:=trivial
theorem tw5019544711922104826:True:=trivial
theorem tw11153126096140912846:True:=trivial
theorem tw3538781236444307513:True:=trivial
theorem tw15171223727094530161:True:=trivial
theorem tw726351398001015727:True:=trivial
theorem tw8413399678365625193:True:=trivial
theorem tw1683588176727124409:True:=trivial
theorem tw10056364004704208136:True:=trivial
theorem tw4163956849929007166:True:=trivial
theorem tw7985883749528016586:True:=trivial
theorem tw4858918184162951299:True:=trivial
theorem tw10886659093417053267:True:=trivial
theorem tw12685400027235849908:True:=trivial
theorem tw5711038861398032994:True:=trivial
theorem tw360634875079729221:True:=trivial
theorem tw18048741565030583774:True:=trivial
theorem tw8151759404152838978:True:=trivial
theorem tw16203965252921439515:True:=trivial
theorem tw13164499291161521807:True:=trivial
theorem tw17713387462200973399:True:=trivial
theorem tw1129948795310169627:True:=trivial
theorem tw14540961386073393648:True:=trivial
theorem tw4091352561680426876:True:=trivial
theorem tw7900394595670775223:True:=trivial
theorem tw8498532028676091811:True:=trivial
theorem tw8159993647027272844:True:=trivial
theorem tw12732229965196715158:True:=trivial
theorem tw424408320835691240:True:=trivial
theorem tw18333273249017474000:True:=trivial
theorem tw3236729772642805936:True:=trivial
theorem tw6979879451811627008:True:=trivial
theorem tw6751970477201280107:True:=trivial
theorem tw8757050672659960515:True:=trivial
theorem tw18335596039185421423:True:=trivial
theorem tw6427576097997697322:True:=trivial
theorem tw5376530373609499990:True:=trivial
theorem tw6044648929357246223:True:=trivial
theorem tw11662115353561507501:True:=trivial
theorem tw18352723725473834589:True:=trivial
theorem tw1725486776273817318:True:=trivial
theorem tw17817366049700826239:True:=trivial
theorem tw866717566613908145:True:=trivial
theorem tw6542358382571353910:True:=trivial
theorem tw6162269159774324313:True:=trivial
theorem tw86012387029904805:True:=trivial
theorem tw15214748959534726111:True:=trivial
theorem tw2997492091776894028:True:=trivial
theorem tw2087409540819079288:True:=trivial
theorem tw2694234056635809718:True:=trivial
theorem tw10228342955482612591:True:=trivial
theorem tw12930229547647579594:True:=trivial
theorem tw3303267245142563540:True:=trivial
theorem tw4993863958327201973:True:=trivial
theorem tw15575547313140297934:True:=trivial
theorem tw7274447275368326107:True:=trivial
theorem tw10509600274020199908:True:=trivial
theorem tw3297117884562324255:True:=trivial
theorem tw7929016534517509169:True:=trivial
theorem tw2345282404023599388:True:=trivial
theorem tw8176730645128964420:True:=trivial
theorem tw14226173905949225808:True:=trivial
theorem tw1442379640649564109:True:=trivial
theorem tw14564479935002850509:True:=trivial
theorem tw16232239604740543338:True:=trivial
theorem tw8916268530333523031:True:=trivial
theorem tw16060203290454839817:True:=trivial
theorem tw8186657734068701312:True:=trivial
theorem tw14958820412457663293:True:=trivial
theorem tw592324957102982844:True:=trivial
theorem tw14963028359598502718:True:=trivial
theorem tw7901701117890005806:True:=trivial
theorem tw3919386906821981792:True:=trivial
theorem tw12826555694032677247:True:=trivial
theorem tw6105849179199505303:True:=trivial
theorem tw14387916025512776202:True:=trivial
theorem tw1663524305781585820:True:=trivial
theorem tw3365755272349913518:True:=trivial
theorem tw15895094517606616290:True:=trivial
theorem tw1599053048872161195:True:=trivial
theorem tw2358075552688931204:True:=trivial
theorem tw17614877247268290040:True:=trivial
theorem tw5217270863462422736:True:=trivial
theorem tw8535803893964050539:True:=trivial
theorem tw12459912946257978736:True:=trivial
theorem tw9553971096990549364:True:=trivial
theorem tw8374155422468719031:True:=trivial
theorem tw5845002605336314091:True:=trivial
theorem tw4837448313503449819:True:=trivial
theorem tw11738243743197964597:True:=trivial
theorem tw16873086082458093902:True:=trivial
theorem tw1207101557538958131:True:=trivial
theorem tw16860917588515726111:True:=trivial
theorem tw9331231397406362311:True:=trivial
theorem tw16682895059504647277:True:=trivial
theorem tw13160504802963445071:True:=trivial
theorem tw10295913840692754127:True:=trivial
theorem tw6094820017090691545:True:=trivial
theorem tw1825952489489211193:True:=trivial
theorem tw5323657890516693427:True:=trivial
theorem tw17082689572870858151:True:=trivial
theorem tw2455152089536381482:True:=trivial
theorem tw3671519592330383864:True:=trivial
theorem tw15326580083554890809:True:=trivial
theorem tw11844019762684407370:True:=trivial
theorem tw15433366417846715934:True:=trivial
theorem tw740290905518256060:True:=trivial
theorem tw15235614512728720:True:=trivial
theorem tw16145670418848962200:True:=trivial
theorem tw15925456577456769635:True:=trivial
theorem tw7086961617601330827:True:=trivial
theorem tw8047209995159408440:True:=trivial
theorem tw16120054744476736488:True:=trivial
theorem tw1293241653719404408:True:=trivial
theorem tw10921404820163398068:True:=trivial
theorem tw16902440903046159558:True:=trivial
theorem tw17312402878845073609:True:=trivial
theorem tw5289818103960998278:True:=trivial
theorem tw1181674027530198351:True:=trivial
theorem tw3049343062529576306:True:=trivial
theorem tw10206286209542907786:True:=trivial
theorem tw2259672571474061568:True:=trivial
theorem tw4333590680753393835:True:=trivial
theorem tw256976265262469064:True:=trivial
theorem tw1205604411410820431:True:=trivial
theorem tw4051853165826885262:True:=trivial
theorem tw18293242582946804979:True:=trivial
theorem tw4334401890000744311:True:=trivial
theorem tw13547939009206843870:True:=trivial
theorem tw11384182702204212275:True:=trivial
theorem tw18402647697222807634:True:=trivial
theorem tw12091442091272426231:True:=trivial
theorem tw1405720946626083897:True:=trivial
theorem tw4545961482378311905:True:=trivial
theorem tw8908233856664302321:True:=trivial
theorem tw5239429619861171699:True:=trivial
theorem tw172746767574481773:True:=trivial
theorem tw7631320640757110747:True:=trivial
theorem tw15565715512253457277:True:=trivial
theorem tw14592624751514493413:True:=trivial
theorem tw14144024108822670751:True:=trivial
theorem tw11272164335830466941:True:=trivial
theorem tw17346623794827051843:True:=trivial
theorem tw3778530596728393105:True:=trivial
theorem tw13313058339493701161:True:=trivial
theorem tw539538531456391632:True:=trivial
theorem tw5832305185047221409:True:=trivial
theorem tw14664691819916384248:True:=trivial
theorem tw10550934584343373414:True:=trivial
theorem tw10094733558918713432:True:=trivial
theorem tw2392593158011319353:True:=trivial
theorem tw9104974531708491489:True:=trivial
theorem tw14154597600763967237:True:=trivial
theorem tw11207431853666184334:True:=trivial
theorem tw7501186508268903616:True:=trivial
theorem tw12715800853834201459:True:=trivial
theorem tw2046362190076281809:True:=trivial
theorem tw15402603294489630176:True:=trivial
theorem tw17137270108147033825:True:=trivial
theorem tw8356303796347215682:True:=trivial
theorem tw4171853373547519906:True:=trivial
theorem tw3721919958574915784:True:=trivial
theorem tw4946147512530127568:True:=trivial
theorem tw4607425872040536859:True:=trivial
theorem tw6216382948874008006:True:=trivial
theorem tw13135312941875745310:True:=trivial
theorem tw10861573186032746274:True:=trivial
theorem tw6420159726195949164:True:=trivial
theorem tw15438627641174518403:True:=trivial
theorem tw2244103112122482387:True:=trivial
theorem tw4480162626587320490:True:=trivial
theorem tw7921390202802761869:True:=trivial
theorem tw14755158882433999464:True:=trivial
theorem tw8995945545434573385:True:=trivial
theorem tw18418582437962087742:True:=trivial
theorem tw17435391645217708394:True:=trivial
theorem tw17691633702590694504:True:=trivial
theorem tw6702445572142316249:True:=trivial
theorem tw4015202173357781934:True:=trivial
theorem tw10042083083395451092:True:=trivial
theorem tw15495752065017430504:True:=trivial
theorem tw14284835775768690865:True:=trivial
theorem tw8428246938381088814:True:=trivial
theorem tw5610444585433571239:True:=trivial
theorem tw9592300441314626372:True:=trivial
theorem tw1630143524128594353:True:=trivial
theorem tw18004296560267143027:True:=trivial
theorem tw8924819469995637033:True:=trivial
theorem tw9116068151291705539:True:=trivial
theorem tw2015444344454546412:True:=trivial
theorem tw12132596417379514657:True:=trivial
theorem tw14556482736207283325:True:=trivial
theorem tw10741264400317747893:True:=trivial
theorem tw9959121941294770655:True:=trivial
theorem tw15052318979288761249:True:=trivial
theorem tw14036186469904095446:True:=trivial
theorem tw12099505692703838030:True:=trivial
theorem tw11911167908941700269:True:=trivial
theorem tw12770481643036789091:True:=trivial
theorem tw6714880395473160397:True:=trivial
theorem tw578191462805490351:True:=trivial
theorem tw16607193741793207195:True:=trivial
theorem tw1866716027138748530:True:=trivial
theorem tw12740759652641322565:True:=trivial
theorem tw13557862171009465336:True:=trivial
theorem tw11317637306720784765:True:=trivial
theorem tw17338325484393633139:True:=trivial
theorem tw4683681711962371626:True:=trivial
theorem tw3328811466098603303:True:=trivial
theorem tw12738610918357793766:True:=trivial
theorem tw12182174808115992843:True:=trivial
theorem tw5515903443438498500:True:=trivial
theorem tw10161179621583223854:True:=trivial
theorem tw3846801734645722302:True:=trivial
theorem tw1517009173149250642:True:=trivial
theorem tw4039707410889071942:True:=trivial
theorem tw16003985067176294414:True:=trivial
theorem tw8737599933303070863:True:=trivial
theorem tw14849461344987154502:True:=trivial
theorem tw10519837036962490867:True:=trivial
theorem tw3300454383303005205:True:=trivial
theorem tw15593559885672580101:True:=trivial
theorem tw17013487888433625170:True:=trivial
theorem tw7592715696027808041:True:=trivial
theorem tw5002640475654186023:True:=trivial
theorem tw376983999666122830:True:=trivial
theorem tw11153475782318119604:True:=trivial
theorem tw15917658305576242666:True:=trivial
theorem tw15870398105094248349:True:=trivial
theorem tw14332157829676619468:True:=trivial
theorem tw18248855084332350957:True:=trivial
theorem tw3801850119919557013:True:=trivial
theorem tw9304451534382375720:True:=trivial
theorem tw6125853113672642322:True:=trivial
theorem tw6526287140368922620:True:=trivial
theorem tw10510056951384868246:True:=trivial
theorem tw15227483606004533461:True:=trivial
theorem tw15590096980072825465:True:=trivial
theorem tw5662061979359257339:True:=trivial
theorem tw13861969467909019144:True:=trivial
theorem tw15771247859494662083:True:=trivial
theorem tw18361725300881549022:True:=trivial
theorem tw15733337929971156237:True:=trivial
theorem tw17214186515701724070:True:=trivial
theorem tw16279288168775177219:True:=trivial
theorem tw3419001889969749887:True:=trivial
theorem tw12901003280762261817:True:=trivial
theorem tw7350462372000428638:True:=trivial
theorem tw14842496431369740429:True:=trivial
theorem tw2483420100392427323:True:=trivial
theorem tw6356304189028158447:True:=trivial
theorem tw14995258362815363992:True:=trivial
theorem tw17351735930882485243:True:=trivial
theorem tw13631397514672939371:True:=trivial
theorem tw13069393092227542028:True:=trivial
theorem tw14760874974797668852:True:=trivial
theorem tw6124413428159637790:True:=trivial
theorem tw13307065042914920193:True:=trivial
theorem tw13367274342830030513:True:=trivial
theorem tw1937721966566455358:True:=trivial
theorem tw140236481695663071:True:=trivial
theorem tw9719393640593047967:True:=trivial
theorem tw1887573119177674980:True:=trivial
theorem tw514280064592716601:True:=trivial
theorem tw3456351732281881909:True:=trivial
theorem tw18157406047293677543:True:=trivial
theorem tw2789304352393801511:True:=trivial
theorem tw2646887283097553488:True:=trivial
theorem tw6229817132586351632:True:=trivial
theorem tw15763482434359817770:True:=trivial
theorem tw5101696844757716304:True:=trivial
theorem tw8949853181751564097:True:=trivial
theorem tw4075453323654395381:True:=trivial
theorem tw11898673842065290130:True:=trivial
theorem tw14424681132571578402:True:=trivial
theorem tw9860861378791804195:True:=trivial
theorem tw16864618592142003386:True:=trivial
theorem tw7050804516273991350:True:=trivial
theorem tw3239113980409921550:True:=trivial
theorem tw9201617497623189827:True:=trivial
theorem tw12382822922155266910:True:=trivial
theorem tw3543459598558145280:True:=trivial
theorem tw2997480634906808460:True:=trivial
theorem tw17760279517084355780:True:=trivial
theorem tw11564986514327137767:True:=trivial
theorem tw9676783613728631035:True:=trivial
theorem tw4772062507164038959:True:=trivial
theorem tw7837367980739423823:True:=trivial
theorem tw15621116118777243554:True:=trivial
theorem tw12681666616541194006:True:=trivial
theorem tw7764699552788554220:True:=trivial
theorem tw16109456028575089023:True:=trivial
theorem tw15142666989864626641:True:=trivial
theorem tw2399617604181995578:True:=trivial
theorem tw16756451883985382160:True:=trivial
theorem tw14201004317487731011:True:=trivial
theorem tw2925816871977632210:True:=trivial
theorem tw6651725471809605288:True:=trivial
theorem tw6188973233030003785:True:=trivial
theorem tw5634867526602368427:True:=trivial
theorem tw3235425350174046738:True:=trivial
theorem tw12468840222048715292:True:=trivial
theorem tw18003772858949239459:True:=trivial
theorem tw17271881437230615512:True:=trivial
theorem tw13343918040275786880:True:=trivial
theorem tw6327569006664949090:True:=trivial
theorem tw11266997524610791606:True:=trivial
theorem tw3075201292733833056:True:=trivial
theorem tw11180800956215176064:True:=trivial
theorem tw9530734954097333506:True:=trivial
theorem tw8997383693586321770:True:=trivial
theorem tw4341293187932698999:True:=trivial
theorem tw2424988045566436242:True:=trivial
theorem tw10164718903369591474:True:=trivial
theorem tw14081431093454284249:True:=trivial
theorem tw13073492499399858440:True:=trivial
theorem tw18400553757987027518:True:=trivial
theorem tw2132029292895624192:True:=trivial
theorem tw4026147355466621588:True:=trivial
theorem tw13303234937177203706:True:=trivial
theorem tw14329579894275425762:True:=trivial
theorem tw8166255043249204926:True:=trivial
theorem tw140001813534094272:True:=trivial
theorem tw577049184839899653:True:=trivial
theorem tw16035376269474964883:True:=trivial
theorem tw1378205811072252300:True:=trivial
theorem tw8996207646774452837:True:=trivial
theorem tw3335794202401238526:True:=trivial
theorem tw16412085850373738351:True:=trivial
theorem tw15861351967447197489:True:=trivial
theorem tw11402884983299125971:True:=trivial
theorem tw14617222483516278133:True:=trivial
theorem tw11212356425047092601:True:=trivial
theorem tw1537541725227008683:True:=trivial
theorem tw5171440476677080432:True:=trivial
theorem tw12549542988036985293:True:=trivial
theorem tw16723463757517087524:True:=trivial
theorem tw7231845647793152400:True:=trivial
theorem tw8044325682031459534:True:=trivial
theorem tw9320515035125037321:True:=trivial
theorem tw10911716485165742097:True:=trivial
theorem tw11220919329744738794:True:=trivial
theorem tw18124618509676941091:True:=trivial
theorem tw14577027041581768965:True:=trivial
theorem tw9689729476882780088:True:=trivial
theorem tw12132732476715806282:True:=trivial
theorem tw17658959251048325594:True:=trivial
theorem tw6408400580700104982:True:=trivial
theorem tw10956520680868813917:True:=trivial
theorem tw14022695629967993375:True:=trivial
theorem tw6880980288501444468:True:=trivial
theorem tw211337195705725219:True:=trivial
theorem tw5459702643516471331:True:=trivial
theorem tw15764947353670896545:True:=trivial
theorem tw12020253756985099128:True:=trivial
theorem tw18105302477358141223:True:=trivial
theorem tw4493901809537577575:True:=trivial
theorem tw16773468814595293053:True:=trivial
theorem tw4323258101793500111:True:=trivial
theorem tw2708214617527550399:True:=trivial
theorem tw16753820520455620202:True:=trivial
theorem tw13082796549270168242:True:=trivial
theorem tw11824586356888161845:True:=trivial
theorem tw16247262843940693239:True:=trivial
theorem tw11566098044289413073:True:=trivial
theorem tw8422229294311615681:True:=trivial
theorem tw9615563845995560447:True:=trivial
theorem tw561727478393794602:True:=trivial
theorem tw10479991185640055810:True:=trivial
theorem tw10159399881129095643:True:=trivial
theorem tw14651306747883248417:True:=trivial
theorem tw2983127059725616120:True:=trivial
theorem tw6030501089693204938:True:=trivial
theorem tw1956260828630720203:True:=trivial
theorem tw2238811745713579835:True:=trivial
theorem tw180266875558373844:True:=trivial
theorem tw9679390387850249182:True:=trivial
theorem tw2080317491765294665:True:=trivial
theorem tw10851082721055443051:True:=trivial
theorem tw1125065396945160393:True:=trivial
theorem tw937210970483165301:True:=trivial
theorem tw12858089460409395330:True:=trivial
theorem tw13343301709244559618:True:=trivial
theorem tw14143020097148135716:True:=trivial
theorem tw13127508451798649013:True:=trivial
theorem tw8006371003960147343:True:=trivial
theorem tw16670193898709178398:True:=trivial
theorem tw10310341975313369176:True:=trivial
theorem tw3238445694619138142:True:=trivial
theorem tw16151628708876355199:True:=trivial
theorem tw14170518179582410385:True:=trivial
theorem tw2216542800690825051:True:=trivial
theorem tw16728255500844073214:True:=trivial
theorem tw6148498323302512570:True:=trivial
theorem tw4734895289157585001:True:=trivial
theorem tw10388488172074580225:True:=trivial
theorem tw2474200967059427378:True:=trivial
theorem tw18060508904421208200:True:=trivial
theorem tw5783627655825047438:True:=trivial
theorem tw5269183497594736927:True:=trivial
theorem tw15173544498738437827:True:=trivial
theorem tw547895379624588593:True:=trivial
theorem tw5672623616920478581:True:=trivial
theorem tw2228412568605170491:True:=trivial
theorem tw5909976876416983842:True:=trivial
theorem tw6058616519681280931:True:=trivial
theorem tw15743010393045028110:True:=trivial
theorem tw1840220198017710270:True:=trivial
theorem tw10406584006884427733:True:=trivial
theorem tw5661595848482461739:True:=trivial
theorem tw2894314189432023629:True:=trivial
theorem tw1401067106901849026:True:=trivial
theorem tw443766864951011646:True:=trivial
theorem tw1142673529048489019:True:=trivial
theorem tw4693966885379303072:True:=trivial
theorem tw14569604634059749682:True:=trivial
theorem tw3110587219445414310:True:=trivial
theorem tw8546256303203405941:True:=trivial
theorem tw2941924889016668590:True:=trivial
theorem tw15685335758407661847:True:=trivial
theorem tw8757255369765604158:True:=trivial
theorem tw8834805137890396735:True:=trivial
theorem tw2754868194923854518:True:=trivial
theorem tw9784134513789038367:True:=trivial
theorem tw4906484309439969231:True:=trivial
theorem tw11481637867367846703:True:=trivial
theorem tw15150329256914348856:True:=trivial
theorem tw16654469307462801742:True:=trivial
theorem tw1158361714356455011:True:=trivial
theorem tw7873748247521183178:True:=trivial
theorem tw13885670934486923800:True:=trivial
theorem tw8646635810480103244:True:=trivial
theorem tw14903569129155370506:True:=trivial
theorem tw9461912720999461741:True:=trivial
theorem tw2638924239945547994:True:=trivial
theorem tw15504105790966721872:True:=trivial
theorem tw6657536258744368796:True:=trivial
theorem tw9768418358887946270:True:=trivial
theorem tw11526606772788702011:True:=trivial
theorem tw17678831435119133177:True:=trivial
theorem tw13861322856664149509:True:=trivial
theorem tw8219003486749837733:True:=trivial
theorem tw4340673293219707767:True:=trivial
theorem tw12325864989022198202:True:=trivial
theorem tw12524954882073270795:True:=trivial
theorem tw6172094611929405055:True:=trivial
theorem tw4309217394794523951:True:=trivial
theorem tw15415318616479256277:True:=trivial
theorem tw11962351593759143498:True:=trivial
theorem tw6597789921013551971:True:=trivial
theorem tw3981977580325598530:True:=trivial
theorem tw6128106870883400570:True:=trivial
theorem tw2741014181512449073:True:=trivial
theorem tw7485256538410118956:True:=trivial
theorem tw8521684928402303493:True:=trivial
theorem tw7943549864190904611:True:=trivial
theorem tw12076989928817844590:True:=trivial
theorem tw16691165463884887630:True:=trivial
theorem tw5725222548895626118:True:=trivial
theorem tw6338894885288841830:True:=trivial
theorem tw8318101203651539667:True:=trivial
theorem tw7557421358154311045:True:=trivial
theorem tw7998583776865276027:True:=trivial
theorem tw16053306600634468012:True:=trivial
theorem tw12903330217458380548:True:=trivial
theorem tw2773992215795510196:True:=trivial
theorem tw12138319994727072339:True:=trivial
theorem tw15036080040530398195:True:=trivial
theorem tw2333531293284704758:True:=trivial
theorem tw15675013803050531044:True:=trivial
theorem tw13769103115541136327:True:=trivial
theorem tw11215392098479208961:True:=trivial
theorem tw10146569101766770184:True:=trivial
theorem tw12936088452001202715:True:=trivial
theorem tw5953359166732830163:True:=trivial
theorem tw10149570385669482864:True:=trivial
theorem tw10016166984437732892:True:=trivial
theorem tw6973427100653255629:True:=trivial
theorem tw16615150188913437886:True:=trivial
theorem tw15138174406397646402:True:=trivial
theorem tw7873786274422454737:True:=trivial
theorem tw9768259533172459722:True:=trivial
theorem tw14607143338591219252:True:=trivial
theorem tw9536688357841153863:True:=trivial
theorem tw8909772338491405060:True:=trivial
theorem tw17890440400047909864:True:=trivial
theorem tw5364010647548929812:True:=trivial
theorem tw1474264761786122189:True:=trivial
theorem tw12125097214300078407:True:=trivial
theorem tw16766484511958638138:True:=trivial
theorem tw8122695690928665766:True:=trivial
theorem tw11525993766095887173:True:=trivial
theorem tw8185220541750880888:True:=trivial
theorem tw9045458381397004210:True:=trivial
theorem tw14647417624928369756:True:=trivial
theorem tw16493865465440409018:True:=trivial
theorem tw2692750590507578028:True:=trivial
theorem tw5274481202262711730:True:=trivial
theorem tw8278001386518606062:True:=trivial
theorem tw14243238205550065757:True:=trivial
theorem tw4046790133079468173:True:=trivial
theorem tw4766597723019941021:True:=trivial
theorem tw8833860146974802555:True:=trivial
theorem tw819570635367399668:True:=trivial
theorem tw13810262117814702294:True:=trivial
theorem tw13813618637161013713:True:=trivial
theorem tw5948871876076421671:True:=trivial
theorem tw8972062959192195235:True:=trivial
theorem tw5395340147747708899:True:=trivial
theorem tw5221592684559293012:True:=trivial
theorem tw11151835277377553703:True:=trivial
theorem tw2187251505897268136:True:=trivial
theorem tw3433779192033484610:True:=trivial
theorem tw12369848792361866835:True:=trivial
theorem tw727924238349540522:True:=trivial
theorem tw3992765435912101610:True:=trivial
theorem tw17590876675597686902:True:=trivial
theorem tw7538781388859322016:True:=trivial
theorem tw6828597562223498359:True:=trivial
theorem tw16248296213531012650:True:=trivial
theorem tw7867829370405329436:True:=trivial
theorem tw2314633323536394700:True:=trivial
theorem tw10910644110388302437:True:=trivial
theorem tw3328118118096588273:True:=trivial
theorem tw12768989823518198380:True:=trivial
theorem tw11033627544408312984:True:=trivial
theorem tw13813548295540068894:True:=trivial
theorem tw182723221234572337:True:=trivial
theorem tw5665240888008139550:True:=trivial
theorem tw18146532975450069615:True:=trivial
theorem tw12772213712371865176:True:=trivial
theorem tw11692469974320434101:True:=trivial
theorem tw14196522196718054806:True:=trivial
theorem tw6851275008772768644:True:=trivial
theorem tw8115137120850386438:True:=trivial
theorem tw11907897558876765624:True:=trivial
theorem tw14454166528178196959:True:=trivial
theorem tw9399754086935153974:True:=trivial
theorem tw14321067358777074657:True:=trivial
theorem tw9294201344175945319:True:=trivial
theorem tw9113380124883318265:True:=trivial
theorem tw3603697650439363286:True:=trivial
theorem tw6575520176995025181:True:=trivial
theorem tw9456574344343218679:True:=trivial
theorem tw7046044490832178742:True:=trivial
theorem tw10198052994689861382:True:=trivial
theorem tw15539815450414544023:True:=trivial
theorem tw12147665669636231765:True:=trivial
theorem tw3308634892276815127:True:=trivial
theorem tw4189273013823423559:True:=trivial
theorem tw3851428956369438258:True:=trivial
theorem tw1950803216711332702:True:=trivial
theorem tw5137589814051832496:True:=trivial
theorem tw14827714588952709054:True:=trivial
theorem tw17334828202450815106:True:=trivial
theorem tw9582823730064241283:True:=trivial
theorem tw1941844328875101383:True:=trivial
theorem tw2546767868308347339:True:=trivial
theorem tw18437792190763421558:True:=trivial
theorem tw5816495043963226922:True:=trivial
theorem tw1848955828906020544:True:=trivial
theorem tw16766683885213920930:True:=trivial
theorem tw17508347553164502932:True:=trivial
theorem tw1804834754348979943:True:=trivial
theorem tw13937768818610491111:True:=trivial
theorem tw13956191218907399338:True:=trivial
theorem tw10799429511968010386:True:=trivial
theorem tw13053770412826190925:True:=trivial
theorem tw11657350159256941575:True:=trivial
theorem tw8833496514701923757:True:=trivial
theorem tw5306753302271460952:True:=trivial
theorem tw16721508838639397229:True:=trivial
theorem tw3198059409981156222:True:=trivial
theorem tw17744993626210230056:True:=trivial
theorem tw938635154573522699:True:=trivial
theorem tw9186807149237001177:True:=trivial
theorem tw1329382545583022102:True:=trivial
theorem tw8590580007683888701:True:=trivial
theorem tw4971374062829452455:True:=trivial
theorem tw1383625962624193546:True:=trivial
theorem tw12747814925858328940:True:=trivial
theorem tw13257283266767686631:True:=trivial
theorem tw261171577418715137:True:=trivial
theorem tw9818998656811842119:True:=trivial
theorem tw1956775160557780875:True:=trivial
theorem tw8865387616306378214:True:=trivial
theorem tw8414355815457870901:True:=trivial
theorem tw17292613610259460706:True:=trivial
theorem tw8171798328758944481:True:=trivial
theorem tw8725675927981157988:True:=trivial
theorem tw3099597729799864441:True:=trivial
theorem tw12488014758255163090:True:=trivial
theorem tw17680797132471856694:True:=trivial
theorem tw10539347186207431242:True:=trivial
theorem tw15978794797337165890:True:=trivial
theorem tw12250869413391326473:True:=trivial
theorem tw6690350156832105676:True:=trivial
theorem tw4470585836733325578:True:=trivial
theorem tw694261584828832409:True:=trivial
theorem tw354308444213283272:True:=trivial
theorem tw16086907953836968628:True:=trivial
theorem tw17592209452093105858:True:=trivial
theorem tw1342123614928995077:True:=trivial
theorem tw16765560720781731146:True:=trivial
theorem tw11793702604926673555:True:=trivial
theorem tw14935467056822913822:True:=trivial
theorem tw6733606326906232124:True:=trivial
theorem tw9402243437249704421:True:=trivial
theorem tw258204147387103276:True:=trivial
theorem tw8080008513338510535:True:=trivial
theorem tw5622701340561072331:True:=trivial
theorem tw9879335643197240621:True:=trivial
theorem tw13674586047789940208:True:=trivial
theorem tw3985964047577975286:True:=trivial
theorem tw16409965706819354750:True:=trivial
theorem tw4635989785427082552:True:=trivial
theorem tw5322009542560784348:True:=trivial
theorem tw896239598344801917:True:=trivial
theorem tw8912161614967838395:True:=trivial
theorem tw2528511596961503537:True:=trivial
theorem tw5438652380644606353:True:=trivial
theorem tw3215387988796971590:True:=trivial
theorem tw5369961537445033690:True:=trivial
theorem tw13851971633180934007:True:=trivial
theorem tw16226643914720891334:True:=trivial
theorem tw1915925776726481438:True:=trivial
theorem tw13831308528885131752:True:=trivial
theorem tw17062427158221528723:True:=trivial
theorem tw9358312197846296583:True:=trivial
theorem tw2261719852989239553:True:=trivial
theorem tw12393862125047025020:True:=trivial
theorem tw2333105410213810865:True:=trivial
theorem tw13394580363473044415:True:=trivial
theorem tw13571862603940711859:True:=trivial
theorem tw13710940844802916613:True:=trivial
theorem tw13053394406489344094:True:=trivial
theorem tw2078950565319712143:True:=trivial
theorem tw2983494736656345032:True:=trivial
theorem tw14061609134260724683:True:=trivial
theorem tw16859961878692490766:True:=trivial
theorem tw5388589039460942527:True:=trivial
theorem tw7091221385724896812:True:=trivial
theorem tw9197174079833555027:True:=trivial
theorem tw8274446707539698164:True:=trivial
theorem tw5920806927976990809:True:=trivial
theorem tw1532491051758110099:True:=trivial
theorem tw7933485763601977624:True:=trivial
theorem tw18367749455379333440:True:=trivial
theorem tw2641800013201688601:True:=trivial
theorem tw6822071536725586909:True:=trivial
theorem tw2213964242967304950:True:=trivial
theorem tw13601115934706021691:True:=trivial
theorem tw11468729153070441980:True:=trivial
theorem tw10123481740113859177:True:=trivial
theorem tw643336161829623379:True:=trivial
theorem tw10374632558016547081:True:=trivial
theorem tw2275282789119773048:True:=trivial
theorem tw17339309145561079191:True:=trivial
theorem tw8739830900816887780:True:=trivial
theorem tw6607644564249050058:True:=trivial
theorem tw15401437161963490237:True:=trivial
theorem tw14904287247971174143:True:=trivial
theorem tw17216001249096748393:True:=trivial
theorem tw18127189064453720709:True:=trivial
theorem tw11161164713144168021:True:=trivial
theorem tw16919654943277366748:True:=trivial
theorem tw4991487270385306882:True:=trivial
theorem tw13996866031312336078:True:=trivial
theorem tw11434409910335936926:True:=trivial
theorem tw4408816720484365081:True:=trivial
theorem tw16132249320637822498:True:=trivial
theorem tw506581581156960101:True:=trivial
theorem tw987426779421491659:True:=trivial
theorem tw206757683497733573:True:=trivial
theorem tw16005714805435085966:True:=trivial
theorem tw15702583709834301711:True:=trivial
theorem tw10888863842102328177:True:=trivial
theorem tw14391293386007564604:True:=trivial
theorem tw1986786360949550309:True:=trivial
theorem tw17318462890700432884:True:=trivial
theorem tw11757307120078846540:True:=trivial
theorem tw14782954611325821827:True:=trivial
theorem tw885948055608056263:True:=trivial
theorem tw9003107776662980439:True:=trivial
theorem tw5404398260228975080:True:=trivial
theorem tw11368310244458860372:True:=trivial
theorem tw10876078143196172821:True:=trivial
theorem tw12477129341811645039:True:=trivial
theorem tw16217903435359918192:True:=trivial
theorem tw13462424878891718212:True:=trivial
theorem tw11401859456886640639:True:=trivial
theorem tw17410218998227585676:True:=trivial
theorem tw3726453103677007866:True:=trivial
theorem tw3436067635600285980:True:=trivial
theorem tw14782755387869428366:True:=trivial
theorem tw13757698761724263525:True:=trivial
theorem tw3042748168174471775:True:=trivial
theorem tw17590705303994421779:True:=trivial
theorem tw3641951560692057861:True:=trivial
theorem tw9388066449989048879:True:=trivial
theorem tw13257414776242894994:True:=trivial
theorem tw15475723433398761304:True:=trivial
theorem tw5874822333441161849:True:=trivial
theorem tw1972164579936704799:True:=trivial
theorem tw13484562703626004877:True:=trivial
theorem tw5449601097390414333:True:=trivial
theorem tw7424060955962978353:True:=trivial
theorem tw3897268976836264337:True:=trivial
theorem tw12003660372656728261:True:=trivial
theorem tw6953138203311097117:True:=trivial
theorem tw10294118229990073760:True:=trivial
theorem tw7476452910721959123:True:=trivial
theorem tw10258873121960336067:True:=trivial
theorem tw2172276787581067923:True:=trivial
theorem tw17155049476370652306:True:=trivial
theorem tw16531682779099013679:True:=trivial
theorem tw6194202620331982285:True:=trivial
theorem tw17187875760726034783:True:=trivial
theorem tw2400638427578300857:True:=trivial
theorem tw2144661209622563809:True:=trivial
theorem tw628631919661052299:True:=trivial
theorem tw14520296925931582552:True:=trivial
theorem tw3500664145855060485:True:=trivial
theorem tw4704452742865826424:True:=trivial
theorem tw463774138113389760:True:=trivial
theorem tw12727641955093265886:True:=trivial
theorem tw13366278800048369731:True:=trivial
theorem tw10624116801336726872:True:=trivial
theorem tw17348111734160510231:True:=trivial
theorem tw1070438729232803039:True:=trivial
theorem tw14859695947638507448:True:=trivial
theorem tw4077048163395320219:True:=trivial
theorem tw384561282630992784:True:=trivial
theorem tw13855379610559885079:True:=trivial
theorem tw4290864757253303354:True:=trivial
theorem tw18101783494082082527:True:=trivial
theorem tw17823556299335049440:True:=trivial
theorem tw4382473104129494423:True:=trivial
theorem tw11076892268299887525:True:=trivial
theorem tw5960047855520388891:True:=trivial
theorem tw6472337539984862722:True:=trivial
theorem tw2353497105660221152:True:=trivial
theorem tw5702276774652866934:True:=trivial
theorem tw4561898282857576226:True:=trivial
theorem tw3676754643040562684:True:=trivial
theorem tw5072417060200589145:True:=trivial
theorem tw9977182230042388008:True:=trivial
theorem tw16670775579421159206:True:=trivial
theorem tw10576836333797772347:True:=trivial
theorem tw2629151800749243262:True:=trivial
theorem tw14334995849660946996:True:=trivial
theorem tw8232614014015475128:True:=trivial
theorem tw13421457143807847188:True:=trivial
theorem tw446995266069924076:True:=trivial
theorem tw5649666937502919571:True:=trivial
theorem tw5498123283257192965:True:=trivial
theorem tw14560624547652848805:True:=trivial
theorem tw5748170370737335489:True:=trivial
theorem tw11421057715548341654:True:=trivial
theorem tw16260866306193365299:True:=trivial
theorem tw11766667032028208565:True:=trivial
theorem tw9404705873571188630:True:=trivial
theorem tw5522115075389312692:True:=trivial
theorem tw87601786513091389:True:=trivial
theorem tw5992840812097835891:True:=trivial
theorem tw9495317472360511255:True:=trivial
theorem tw10879749546641988924:True:=trivial
theorem tw4313010194945074917:True:=trivial
theorem tw14398111036562950334:True:=trivial
theorem tw10792498714594961201:True:=trivial
theorem tw14904681115217272601:True:=trivial
theorem tw3208522521903949160:True:=trivial
theorem tw13913613514976480042:True:=trivial
theorem tw599730875272715187:True:=trivial
theorem tw646091604453992162:True:=trivial
theorem tw4903002758410956813:True:=trivial
theorem tw8060666987683057360:True:=trivial
theorem tw10988764466652934233:True:=trivial
theorem tw6329614223026926184:True:=trivial
theorem tw11063759124802658401:True:=trivial
theorem tw9869809959619462935:True:=trivial
theorem tw12435058653956393420:True:=trivial
theorem tw3665444673518743966:True:=trivial
theorem tw2285686636504529566:True:=trivial
theorem tw12884060626414724322:True:=trivial
theorem tw17951090304560329564:True:=trivial
theorem tw15621415185263527259:True:=trivial
theorem tw14219159868682941630:True:=trivial
theorem tw12887044766017154078:True:=trivial
theorem tw13349420017058727143:True:=trivial
theorem tw7217548393331319763:True:=trivial
theorem tw16636501806038632012:True:=trivial
theorem tw15699961213505342161:True:=trivial
theorem tw6557801498797044033:True:=trivial
theorem tw9592521066531166775:True:=trivial
theorem tw727553628536289456:True:=trivial
theorem tw8398943975594018772:True:=trivial
theorem tw6522051377940421278:True:=trivial
theorem tw2167315655227761912:True:=trivial
theorem tw2576523973992343609:True:=trivial
theorem tw4562827626845409882:True:=trivial
theorem tw2041926188850086339:True:=trivial
theorem tw16522183678017940807:True:=trivial
theorem tw5342471268416680606:True:=trivial
theorem tw4413860948169739490:True:=trivial
theorem tw9316815775250114193:True:=trivial
theorem tw5037459499596335280:True:=trivial
theorem tw2295934692909999376:True:=trivial
theorem tw3592811809046731828:True:=trivial
theorem tw8002303944043701648:True:=trivial
theorem tw14261769069557060686:True:=trivial
theorem tw8915285831880473931:True:=trivial
theorem tw17937168697417666835:True:=trivial
theorem tw10026605065719503897:True:=trivial
theorem tw16797375974695604193:True:=trivial
theorem tw17160835175205238506:True:=trivial
theorem tw13946496683202179788:True:=trivial
theorem tw7509565986652818475:True:=trivial
theorem tw15042883488752021643:True:=trivial
theorem tw6128145076113358165:True:=trivial
theorem tw8565224436197482051:True:=trivial
theorem tw3300257896294614128:True:=trivial
theorem tw7766106395892283477:True:=trivial
theorem tw18407495941553956032:True:=trivial
theorem tw13444670453868202053:True:=trivial
theorem tw12330612334027959195:True:=trivial
theorem tw17731313482808627303:True:=trivial
theorem tw13872120688422071045:True:=trivial
theorem tw10341888390210383824:True:=trivial
theorem tw13812277999558781770:True:=trivial
theorem tw10611411778653204182:True:=trivial
theorem tw5285915839522022235:True:=trivial
theorem tw17163426234232328066:True:=trivial
theorem tw12917704675397863716:True:=trivial
theorem tw2107523057676978006:True:=trivial
theorem tw4524658085876675188:True:=trivial
theorem tw16116027297012810434:True:=trivial
theorem tw7220529860990300233:True:=trivial
theorem tw1045582712504079209:True:=trivial
theorem tw7942791058656714990:True:=trivial
theorem tw5467331546851215429:True:=trivial
theorem tw375148617187948888:True:=trivial
theorem tw16955839230299176341:True:=trivial
theorem tw1922157984580058403:True:=trivial
theorem tw11823594873375168262:True:=trivial
theorem tw6829468419937405859:True:=trivial
theorem tw7520747337044880989:True:=trivial
theorem tw1979317910248211280:True:=trivial
theorem tw2956708394376553000:True:=trivial
theorem tw17577329170770402720:True:=trivial
theorem tw14746253646979254834:True:=trivial
theorem tw296083027919845158:True:=trivial
theorem tw1149798457248472902:True:=trivial
theorem tw13539809779269347639:True:=trivial
theorem tw7397212543588705075:True:=trivial
theorem tw5055593616971399804:True:=trivial
theorem tw6798380500665416597:True:=trivial
theorem tw14811890972901180937:True:=trivial
theorem tw13669536469129627823:True:=trivial
theorem tw13205091638197436094:True:=trivial
theorem tw11107512795663914464:True:=trivial
theorem tw9619071485814978506:True:=trivial
theorem tw8191318114535113306:True:=trivial
theorem tw431221854992830470:True:=trivial
theorem tw9972681490609642005:True:=trivial
theorem tw609457278022895560:True:=trivial
theorem tw429539710256275620:True:=trivial
theorem tw18095796173783872564:True:=trivial
theorem tw5233118043267047457:True:=trivial
theorem tw1000662321505670351:True:=trivial
theorem tw13141587033338554882:True:=trivial
theorem tw12567650564001988402:True:=trivial
theorem tw8222940686941784037:True:=trivial
theorem tw9931937742245647033:True:=trivial
theorem tw4757880891971583632:True:=trivial
theorem tw15251835097244881130:True:=trivial
theorem tw4565167180653195659:True:=trivial
theorem tw4483904966330829159:True:=trivial
theorem tw5832146486336120021:True:=trivial
theorem tw14935156969734317764:True:=trivial
theorem tw1717767836212652739:True:=trivial
theorem tw15125770126966510544:True:=trivial
theorem tw3604082896382514872:True:=trivial
theorem tw10698057553749749337:True:=trivial
theorem tw18073898193381586223:True:=trivial
theorem tw5226586810942512283:True:=trivial
theorem tw1719895430356276633:True:=trivial
theorem tw154272780991502253:True:=trivial
theorem tw7001957589650049515:True:=trivial
theorem tw12314708539913122752:True:=trivial
theorem tw17184031218471190783:True:=trivial
theorem tw5371794888043636658:True:=trivial
theorem tw9387514328989991554:True:=trivial
theorem tw15418674001244492974:True:=trivial
theorem tw908480701973217441:True:=trivial
theorem tw12627051441459223148:True:=trivial
theorem tw10151330197121100416:True:=trivial
theorem tw16108870410212019532:True:=trivial
theorem tw4267111383703672358:True:=trivial
theorem tw2950685276103557050:True:=trivial
theorem tw542563422162235373:True:=trivial
theorem tw12670982853097334264:True:=trivial
theorem tw5694767641087392711:True:=trivial
theorem tw11066385474520676512:True:=trivial
theorem tw6259241058660970061:True:=trivial
theorem tw16378183091871739711:True:=trivial
theorem tw6508132753307246276:True:=trivial
theorem tw17397653436517662659:True:=trivial
theorem tw4514232752302053791:True:=trivial
theorem tw16925712312323332580:True:=trivial
theorem tw12669407529647801677:True:=trivial
theorem tw1607123104830579860:True:=trivial
theorem tw14173793092197918974:True:=trivial
theorem tw4321966507151631593:True:=trivial
theorem tw9510108024173832781:True:=trivial
theorem tw1708089923452030704:True:=trivial
theorem tw5263133172445716209:True:=trivial
theorem tw2868442198168577507:True:=trivial
theorem tw16298917771340976007:True:=trivial
theorem tw1402340071739887797:True:=trivial
theorem tw11267315532378154396:True:=trivial
theorem tw8272569733616993153:True:=trivial
theorem tw8349214307167005616:True:=trivial
theorem tw5086489192560080304:True:=trivial
theorem tw15805137534098808535:True:=trivial
theorem tw17986951261819808105:True:=trivial
theorem tw7322748291113730364:True:=trivial
theorem tw6469784823511061222:True:=trivial
theorem tw15910123707662034135:True:=trivial
theorem tw16103829930404553856:True:=trivial
theorem tw14710976976299594304:True:=trivial
theorem tw9215358943560890414:True:=trivial
theorem tw4859391219904099992:True:=trivial
theorem tw17862349074038704544:True:=trivial
theorem tw6858818405166986180:True:=trivial
theorem tw2813801546833155447:True:=trivial
theorem tw14372219517969529114:True:=trivial
theorem tw17613222154834848340:True:=trivial
theorem tw2931988195819169919:True:=trivial
theorem tw14869962595670455896:True:=trivial
theorem tw306047672372848657:True:=trivial
theorem tw761803264340522177:True:=trivial
theorem tw6942634455013318504:True:=trivial
theorem tw9878177214627512989:True:=trivial
theorem tw12528533614272120300:True:=trivial
theorem tw3817596123196066256:True:=trivial
theorem tw9796564346219866840:True:=trivial
theorem tw10713865542653931438:True:=trivial
theorem tw11717715558655726156:True:=trivial
theorem tw2768188642542392010:True:=trivial
theorem tw11489344026974618541:True:=trivial
theorem tw1484650774730072618:True:=trivial
theorem tw14934011241717051027:True:=trivial
theorem tw15932183184989994656:True:=trivial
theorem tw16998588944726240723:True:=trivial
theorem tw17360015989920007124:True:=trivial
theorem tw14833712730911297017:True:=trivial
theorem tw13384656265869573321:True:=trivial
theorem tw1545724803604235189:True:=trivial
theorem tw15554417296805563061:True:=trivial
theorem tw10095894221667365369:True:=trivial
theorem tw14594842627406614536:True:=trivial
theorem tw15792790952358468732:True:=trivial
theorem tw2705429854395057126:True:=trivial
theorem tw12843764043397292189:True:=trivial
theorem tw9969077435446430640:True:=trivial
theorem tw12360917755211006479:True:=trivial
theorem tw15806707075529380192:True:=trivial
theorem tw14553807712399142462:True:=trivial
theorem tw10085292869130188298:True:=trivial
theorem tw9848817304349107530:True:=trivial
theorem tw13465540834166320765:True:=trivial
theorem tw4512776594637900181:True:=trivial
theorem tw5994696166404524948:True:=trivial
theorem tw7374399212775623666:True:=trivial
theorem tw6548459193220583526:True:=trivial
theorem tw17883462748017686043:True:=trivial
theorem tw15627779663793561183:True:=trivial
theorem tw9496581404884138560:True:=trivial
theorem tw622995879521568732:True:=trivial
theorem tw16101134707931498060:True:=trivial
theorem tw10297410513487048360:True:=trivial
theorem tw6248682570935725439:True:=trivial
theorem tw14294133066467233204:True:=trivial
theorem tw16681507383918705554:True:=trivial
theorem tw3475869608268796686:True:=trivial
theorem tw14260533273033392520:True:=trivial
theorem tw3713540243193553862:True:=trivial
theorem tw1205274952441263945:True:=trivial
theorem tw593343749668468936:True:=trivial
theorem tw9806118890596472461:True:=trivial
theorem tw2480015634913765671:True:=trivial
theorem tw17261404542052806724:True:=trivial
theorem tw14938211915633500526:True:=trivial
theorem tw12058884036946728934:True:=trivial
theorem tw11205608169257636508:True:=trivial
theorem tw8899516883271353254:True:=trivial
theorem tw2570914705882880060:True:=trivial
theorem tw9646623106273453227:True:=trivial
theorem tw13345342141187717317:True:=trivial
theorem tw9950792792127014553:True:=trivial
theorem tw4211115844707057057:True:=trivial
theorem tw17980500129456985241:True:=trivial
theorem tw14611616552423853409:True:=trivial
theorem tw3953844824629472508:True:=trivial
theorem tw9919008367099125623:True:=trivial
theorem tw17632668173026273278:True:=trivial
theorem tw3831019782443316194:True:=trivial
theorem tw11853640710764476214:True:=trivial
theorem tw9678289623588505577:True:=trivial
theorem tw5341297951324810720:True:=trivial
theorem tw511232430288663203:True:=trivial
theorem tw757356599333046425:True:=trivial
theorem tw4186743451310774866:True:=trivial
theorem tw977512076041815475:True:=trivial
theorem tw2869065659524454656:True:=trivial
theorem tw2084650752826471497:True:=trivial
theorem tw4436474186459923750:True:=trivial
theorem tw4600438763894957952:True:=trivial
theorem tw16902085369446701243:True:=trivial
theorem tw7007286002206832825:True:=trivial
theorem tw4953865588907285216:True:=trivial
theorem tw8412748745612879247:True:=trivial
theorem tw1010972086116683374:True:=trivial
theorem tw17267597263503486738:True:=trivial
theorem tw12550775161083096063:True:=trivial
theorem tw10282777137419654623:True:=trivial
theorem tw4449297822257671152:True:=trivial
theorem tw7212858340449540239:True:=trivial
theorem tw5805800948307579973:True:=trivial
theorem tw5370981198051040953:True:=trivial
theorem tw12773500944031208451:True:=trivial
theorem tw4327107012436481372:True:=trivial
theorem tw5537553045615171315:True:=trivial
theorem tw7770478706760583155:True:=trivial
theorem tw16309811473084048462:True:=trivial
theorem tw2386784164831690217:True:=trivial
theorem tw3350206127114907401:True:=trivial
theorem tw12960429369202013873:True:=trivial
theorem tw785946285636773999:True:=trivial
theorem tw11863963456291920697:True:=trivial
theorem tw4773484457636388862:True:=trivial
theorem tw2595585439558603231:True:=trivial
theorem tw2595618661548880785:True:=trivial
theorem tw12431713363859531893:True:=trivial
theorem tw1467881925912835984:True:=trivial
theorem tw256182404569192445:True:=trivial
theorem tw7480016910919988345:True:=trivial
theorem tw15127105006835628225:True:=trivial
theorem tw9584292182412213727:True:=trivial
theorem tw2466311954974566718:True:=trivial
theorem tw2870957612703475602:True:=trivial
theorem tw9630203353718772412:True:=trivial
theorem tw13215348057498601715:True:=trivial
theorem tw6331431999304432861:True:=trivial
theorem tw15888466755372326495:True:=trivial
theorem tw17916429707943930468:True:=trivial
theorem tw3438699932752214802:True:=trivial
theorem tw10538165733446703262:True:=trivial
theorem tw17558320327384617127:True:=trivial
theorem tw11373181179767321252:True:=trivial
theorem tw7828442866392281868:True:=trivial
theorem tw17871049288011112270:True:=trivial
theorem tw15779231459743154856:True:=trivial
theorem tw17510684818845775701:True:=trivial
theorem tw14847308668706973960:True:=trivial
theorem tw8150244357695641675:True:=trivial
theorem tw772564365185477556:True:=trivial
theorem tw14537775516033599862:True:=trivial
theorem tw6208910965292489261:True:=trivial
theorem tw13439652990877377571:True:=trivial
theorem tw890339118813698166:True:=trivial
theorem tw8210202977690762169:True:=trivial
theorem tw10395332584310045583:True:=trivial
theorem tw4849480874435393781:True:=trivial
theorem tw8331849164307833061:True:=trivial
theorem tw12876709506271813870:True:=trivial
theorem tw13055953723892786844:True:=trivial
theorem tw16839002366802243188:True:=trivial
theorem tw17499849576073844966:True:=trivial
theorem tw14441679199631801671:True:=trivial
theorem tw209982475168477708:True:=trivial
theorem tw1998347030407657756:True:=trivial
theorem tw14819390147424179368:True:=trivial
theorem tw11078473246598507814:True:=trivial
theorem tw14538725608371270373:True:=trivial
theorem tw11502921971960690029:True:=trivial
theorem tw4547051000311932777:True:=trivial
theorem tw6060609690816243450:True:=trivial
theorem tw4938610541543285704:True:=trivial
theorem tw10470340158578859262:True:=trivial
theorem tw10373885705245885314:True:=trivial
theorem tw6549852094080907030:True:=trivial
theorem tw5338801713223979382:True:=trivial
theorem tw14671739901194505220:True:=trivial
theorem tw3681537716864247207:True:=trivial
theorem tw17049750858520166293:True:=trivial
theorem tw11429584451438056573:True:=trivial
theorem tw17472340661787783526:True:=trivial
theorem tw3581434408401558974:True:=trivial
theorem tw4063829332388037331:True:=trivial
theorem tw5667099127317398114:True:=trivial
theorem tw10988312798546598065:True:=trivial
theorem tw9757595895972200118:True:=trivial
theorem tw5812350808301622050:True:=trivial
theorem tw1198783387198779033:True:=trivial
theorem tw16626521671886133394:True:=trivial
theorem tw3270257207059953099:True:=trivial
end PySem.W.Fast
section
open PySem PySem.W PyProof.Rows
local macro_rules| `(tactic|o_head ($f:ident $k $a $e))=>if f.getId.eraseMacroScopes== `kHook then `(tactic|o_head (TR.kHookQ $k $a $e (by kernel_rfl))) else Lean.Macro.throwUnsupported
set_option maxRecDepth 100000 in
set_option maxHeartbeats 0 in
open_top hd for PySem.Challenge.rw_tenreckon_k33_lines_refused
end
namespace L2
open PySem PySem.Spec PyProof.Rows
noncomputable abbrev Key:=Sum Int Str
noncomputable def C5t:Key ->Value ->Bool
 | .inl k,v=>Value.isInt k v
 | .inr x,v=>Value.isStrOf x v
noncomputable def J6t (w:World):Key ->Int
 | .inl k=>hashInt k
 | .inr x=>hashStr w x
theorem Y4:∀{k:Key} {v:Value},C5t k v=true ->(∃i t,k=Sum.inl i/\v=Value.int i t)\/(∃x t,k=Sum.inr x/\v=Value.str x t)
 | .inl i,v,h=>by
   obtain⟨t,e⟩:=Value.isInt_shape (k:=i) (v:=v) h
   exact .inl ⟨i,t,rfl,e⟩
 | .inr x,v,h=>by
   obtain⟨t,e⟩:=Value.isStrOf_shape (x:=x) (v:=v) h
   exact .inr ⟨x,t,rfl,e⟩
theorem C7p(x:Str)(t:Tok):C5t (.inr x) (.str x t)=true:=by simp[C5t,Value.isStrOf]
theorem G5u(a b:Int):decide ((Sum.inl a:Key)=Sum.inl b)=(a==b):=by
 by_cases e:a=b
 . subst e;simp
 have h:¬(Sum.inl a:Key)=Sum.inl b:=fun q=>e (Sum.inl.inj q)
 rw[decide_eq_false h]
 exact(beq_eq_false_iff_ne.mpr e).symm
theorem C9x(a b:Str):decide ((Sum.inr a:Key)=Sum.inr b)=decide (a=b):=by
 by_cases e:a=b
 . subst e;simp
 have h:¬(Sum.inr a:Key)=Sum.inr b:=fun q=>e (Sum.inr.inj q)
 rw[decide_eq_false h,decide_eq_false e]
theorem G7c(a:Int)(b:Str):decide ((Sum.inl a:Key)=Sum.inr b)=false:=decide_eq_false (fun q=>nomatch q)
theorem G5z(a:Str)(b:Int):decide ((Sum.inr a:Key)=Sum.inl b)=false:=decide_eq_false (fun q=>nomatch q)
noncomputable def A7f (prog:Program) (w:World):PySem.KeyKind prog w Key where
 is:=C5t
 hash:=J6t w
 inj :=fun v a b ha hb=>by
   rcases Y4 ha with⟨i,t,rfl,rfl⟩|⟨x,t,rfl,rfl⟩
   . rcases Y4 hb with⟨j,u,rfl,e⟩|⟨y,u,rfl,e⟩
     . injection e with e1 _;rw[e1]
     . exact nomatch e
   . rcases Y4 hb with⟨j,u,rfl,e⟩|⟨y,u,rfl,e⟩
     . exact nomatch e
     . injection e with e1 _;rw[e1]
 byValue:=fun k v h=>by
   rcases Y4 h with⟨i,t,rfl,rfl⟩|⟨x,t,rfl,rfl⟩<;>rfl
 pyHash:=fun hv h=>by
   rcases Y4 hv with⟨i,t,rfl,rfl⟩|⟨x,t,rfl,rfl⟩
   . exact wpAny_pyHash_int h
   . exact wpAny_pyHash_str h
 eqBool:=fun hu hv h=>by
   rcases Y4 hu with⟨i,t,rfl,rfl⟩|⟨x,t,rfl,rfl⟩
   . rcases Y4 hv with⟨j,u,rfl,rfl⟩|⟨y,u,rfl,rfl⟩
     . rw[G5u] at h;exact wpAny_eqBool_int h
     . rw[G7c] at h;exact SeqAt.EqAt.int_str i t y u _ _ _ _ h
   . rcases Y4 hv with⟨j,u,rfl,rfl⟩|⟨y,u,rfl,rfl⟩
     . rw[G5z] at h;exact SeqAt.EqAt.str_int x t j u _ _ _ _ h
     . rw[C9x] at h;exact wpAny_eqBool_str h
 «strs» := fun k x t v h => by
   rcases Y4 h with⟨i,u,rfl,e⟩|⟨y,u,rfl,e⟩
   . exact nomatch e
   . injection e with e1 _
     subst e1
     cases v<;>rfl
theorem D0(prog:Program)(w:World)(x:Str)(t:Tok):(A7f prog w).is (.inr x) (.str x t)=true:=C7p x t
inductive V where
 |non|bl (b:Bool)|int (i:Int)|str (x:Str)|byt (b:Array UInt8)|flt (b:UInt64)|ref (a:Addr)|ty (n:String)
 deriving DecidableEq
noncomputable def U4:V ->Value ->Prop
 | .non,u=>u=Value.none
 | .bl b,u=>u=Value.bool b
 | .int i,u=>∃t,u=Value.int i t
 | .str x,u=>∃t,u=Value.str x t
 | .byt b,u=>∃t,u=Value.bytes b t
 | .flt b,u=>∃t,u=Value.float b t
 | .ref a,u=>u=Value.ref a
 | .ty n,u=>u=Value.type n
noncomputable abbrev J0:List V ->List Value ->Prop:=Paired U4
theorem J0.length{xs:List V}{us:List Value}(r:J0 xs us):xs.length=us.length:=Paired.length r
theorem J0.get:∀{xs:List V} {us:List Value} {i:Nat} {x:V},J0 xs us ->xs[i]?=some x ->∃u,us[i]?=some u/\U4 x u
 |_,_,_,_,.nil,e=>by simp at e
 |_,_,0,_,.cons r _,e=>by simp at e;subst e;exact⟨_,rfl,r⟩
 | _,_,i+1,x,.cons _ t,e=>by
   obtain⟨u,h1,h2⟩:=J0.get (i:=i) (x:=x) t (by simpa using e)
   exact⟨u,by simpa using h1,h2⟩
theorem J0.append:∀{xs ys:List V} {us ws:List Value},J0 xs us ->J0 ys ws ->J0 (xs++ys) (us++ws)
 |_,_,_,_,.nil,s=>s
 |_,_,_,_,.cons r t,s=> .cons r (J0.append t s)
theorem J0.take:∀{xs:List V} {us:List Value} (n:Nat),J0 xs us ->J0 (xs.take n) (us.take n)
 |_,_,0,_=> .nil
 |_,_,_+1,.nil=> .nil
 |_,_,n+1,.cons r t=> .cons r (J0.take n t)
theorem J0.drop:∀{xs:List V} {us:List Value} (n:Nat),J0 xs us ->J0 (xs.drop n) (us.drop n)
 |_,_,0,r=>r
 |_,_,_+1,.nil=> .nil
 |_,_,n+1,.cons _ t=>J0.drop n t
noncomputable def A4c:Option V ->Option Value ->Prop
 |some v,some u=>U4 v u
 |none,none=>True
 |_,_=>False
noncomputable def KV {κ:Type}:List (κ×V) ->List (κ×Value) ->Prop:=Paired fun(p:κ×V) (q:κ×Value)=>p.1=q.1/\U4 p.2 q.2
noncomputable def kV:Key ->V
 | .inl i=> .int i
 | .inr x=> .str x
inductive HO where
 |lst (xs:List V)
 |tup (xs:List V)
 |dK (kvs:List (Key×V))|dT (kvs:List (List Key×V))
 |set (S:Int ->Bool) (n:Nat)
 |ins (C dx:Addr) (fs:List (Str×V))
 |own (x:Addr)
 |xd (fs:List (Str×V))
 |met (f x:Addr)
 |rng (lo hi:Int)
 |frz (o:Obj) (u:HO)
 |tbl (ps:Array Value)
 |ext (φ:Heap ->Prop)
noncomputable abbrev Hp:=Addr ->Option HO
noncomputable def upd (H:Hp) (a:Addr) (o:HO):Hp:=fun b=>if b=a then some o else H b
theorem A6{H:Hp}{a:Addr}{o:HO}:upd H a o a=some o:=by unfold upd;rw[if_pos rfl]
theorem C9{H:Hp}{a b:Addr}{o:HO}(h:b≠a):upd H a o b=H b:=by unfold upd;rw[if_neg h]
theorem G1x{H:Hp}{a:Addr}{o u:HO}:upd (upd H a o) a u=upd H a u:=by
 funext b;unfold upd;split<;>rfl
theorem A1w{H:Hp}{a b:Addr}{o u:HO}(h:H a=some o)(h':H b=some u)(d:o≠u):a≠b:=by
 intro e;subst e;rw[h] at h';exact d (Option.some.inj h')
theorem D5{H:Hp}{a b:Addr}{o:HO}(h:H a=some o)(h':H b=none):a≠b:=by
 intro e;subst e;rw[h] at h';cases h'
section
variable(P:Program)(w:World)
noncomputable def Z9 (H:Hp) (h:Heap) (a:Addr):HO ->Prop
 | .lst xs=>xs.length<=sizeLine/\∃(its:List Value) (n:Nat),J0 xs its/\h.get? a=some {cls:= .type "list",data:= .seq its.toArray n}
 | .tup xs=>xs.length<=sizeLine/\∃its:List Value,J0 xs its/\IsTup h a its.toArray
 | .dK kvs=>kvs.length<=sizeLine/\(a==sysModules)=false/\∃vs,KV kvs vs/\h.DictOf (A7f P w) a vs
 | .dT kvs=>kvs.length<=sizeLine/\(a==sysModules)=false/\∃xs:List (List Key×Addr×Value),
     Paired (fun(p:List Key×V) (q:List Key×Addr×Value)=>p.1=q.1/\H q.2.1=some (.tup (p.1.map kV))/\U4 p.2 q.2.2) kvs xs/\
     ∃o es ep,h.get? a=some o/\o.ExactDict/\o.data= .dict es ep/\es.toList=xs.map (entryOfKey (tupleKind (A7f P w)))/\(xs.map (·.1)).Nodup
 | .set S n=>h.SetOf (intKind P w) a S n
 | .ins C dx fs=>H dx=some (.own a)/\fs.length<=1000/\dx≠a/\h.get? a=some (PySem.W.instObj C dx)/\
     ∃mA,h.Ns1 dx mA/\(∀f,A4c (fs.lookup f) (mA f))/\PySem.Within mA (fs.map (·.1))
 | .own _=>∃o,h.get? a=some o
 | .xd fs=>∃mA,h.Ns1 a mA/\∀f,A4c (fs.lookup f) (mA f)
 | .rng lo hi=>∃t u v,h.get? a=some {cls:= .type "range",data:= .fields #[.int lo t,.int hi u,.int 1 v]}
 | .frz o u=>h.get? a=some o/\Z9 H h a u
 | .tbl ps=>h.get? a=some {cls:= .none,data:= .fields ps}
 | .met f x=>h.get? a=some (PySem.W.methodObj (.ref f) (.ref x))
 | .ext φ=>φ h/\(∃o,h.get? a=some o)/\∀h1 h2:Heap,φ h1 ->(∀o,h1.get? a=some o ->h2.get? a=some o) ->φ h2
noncomputable def HOk (H:Hp) (h:Heap):Prop:=∀a o,H a=some o ->Z9 P w H h a o
end
section
variable{P:Program}{w:World}{H H':Hp}{h h':Heap}{a:Addr}{o:HO}
theorem Z9.lt(x:Z9 P w H h a o):a<h.objs.size:=by
 cases o with
 |lst xs=>obtain⟨_,_,_,_,e⟩:=x;exact Heap.lt_size e
 |tup xs=>obtain⟨_,_,_,p⟩:=x;exact p.lt
 |dK kvs=>obtain⟨_,_,_,_,o,_,_,e,_⟩:=x;exact Heap.lt_size e
 |dT kvs=>obtain⟨_,_,_,_,o,_,_,e,_⟩:=x;exact Heap.lt_size e
 |set S n=>obtain⟨o,_,_,_,e,_⟩:=x;exact Heap.lt_size e
 |ins C dx fs=>obtain⟨_,_,_,e,_⟩:=x;exact Heap.lt_size e
 |own y=>obtain⟨_,e⟩:=x;exact Heap.lt_size e
 |xd fs=>obtain⟨_,⟨_,_,_,e,_⟩,_⟩:=x;exact Heap.lt_size e
 |rng lo hi=>obtain⟨_,_,_,e⟩:=x;exact Heap.lt_size e
 |frz ob u=>obtain⟨e,_⟩:=x;exact Heap.lt_size e
 |tbl ps=>exact Heap.lt_size (show h.get? a=some _ from x)
 |met f y=>exact Heap.lt_size (show h.get? a=some _ from x)
 |ext φ=>obtain⟨_,⟨_,e⟩,_⟩:=x;exact Heap.lt_size e
theorem Paired.mapP{α β:Type}{F G:α ->β ->Prop}:∀{l₁:List α} {l₂:List β},Paired F l₁ l₂ ->(∀a b,F a b ->G a b) ->Paired G l₁ l₂
 |_,_,.nil,_=> .nil
 |_,_,.cons r t,f=> .cons (f _ _ r) (Paired.mapP t f)
theorem Z9.stay(x:Z9 P w H h a o)(k:∀b u,(b=a\/H b=some (.own a)) ->h.get? b=some u ->h'.get? b=some u)
   (ho:∀b,H b=some (.own a) ->H' b=some (.own a)) (ht:∀b xs,H b=some (.tup xs) ->H' b=some (.tup xs)):Z9 P w H' h' a o:=by
 induction o with
 |lst xs=>obtain⟨z,its,n,r,e⟩:=x;exact⟨z,its,n,r,k _ _ (.inl rfl) e⟩
 |tup xs=>obtain⟨z,its,r,ob,e,c⟩:=x;exact⟨z,its,r,ob,k _ _ (.inl rfl) e,c⟩
 |dK kvs=>obtain⟨z,y,vs,r,ob,es,ep,e,c⟩:=x;exact⟨z,y,vs,r,ob,es,ep,k _ _ (.inl rfl) e,c⟩
 | dT kvs=>
   obtain⟨z,y,xs,r,ob,es,ep,e,c⟩:=x
   exact⟨z,y,xs,Paired.mapP r fun p q z=>⟨z.1,ht _ _ z.2.1,z.2.2⟩,ob,es,ep,k _ _ (.inl rfl) e,c⟩
 |set S n=>obtain⟨ob,es,ep,t,e,c⟩:=x;exact⟨ob,es,ep,t,k _ _ (.inl rfl) e,c⟩
 | ins C dx fs=>
   obtain⟨d,z,ne,e,mA,⟨od,es,ep,e2,c⟩,r⟩:=x
   exact⟨ho _ d,z,ne,k _ _ (.inl rfl) e,mA,⟨od,es,ep,k _ _ (.inr d) e2,c⟩,r⟩
 |own y=>obtain⟨ob,e⟩:=x;exact⟨ob,k _ _ (.inl rfl) e⟩
 |xd fs=>obtain⟨mA,⟨od,es,ep,e,c⟩,r⟩:=x;exact⟨mA,⟨od,es,ep,k _ _ (.inl rfl) e,c⟩,r⟩
 |rng lo hi=>obtain⟨t,u,v,e⟩:=x;exact⟨t,u,v,k _ _ (.inl rfl) e⟩
 |frz ob u ih=>obtain⟨e,q⟩:=x;exact⟨k _ _ (.inl rfl) e,ih q⟩
 | tbl ps=>
   have e:h.get? a=some {cls:= .none,data:= .fields ps}:=x
   show h'.get? a=some {cls:= .none,data:= .fields ps}
   exact k a _ (.inl rfl) e
 | met f y=>
   have e:h.get? a=some (PySem.W.methodObj (.ref f) (.ref y)):=x
   show h'.get? a=some (PySem.W.methodObj (.ref f) (.ref y))
   exact k a _ (.inl rfl) e
 |ext φ=>obtain⟨p,⟨o,e⟩,st⟩:=x;exact⟨st _ _ p fun o q=>k _ _ (.inl rfl) q,⟨o,k _ _ (.inl rfl) e⟩,st⟩
theorem HOk.lt(x:HOk P w H h)(e:H a=some o):a<h.objs.size:=(x a o e).lt
theorem HOk.fresh(x:HOk P w H h)(e:h.objs.size<=a):H a=none:=by
 cases q:H a with
 |none=>rfl
 |some u=>exact absurd (Nat.lt_of_lt_of_le (x.lt q) e) (Nat.lt_irrefl _)
theorem HOk.kept(x:HOk P w H h)(k:∀b u,h.get? b=some u ->h'.get? b=some u):HOk P w H h':=fun a o e=>
 (x a o e).stay (fun b u _ q=>k b u q) (fun _ q=>q) fun _ _ q=>q
theorem HOk.laid(x:HOk P w H h)(k:∀b u,h.get? b=some u ->h'.get? b=some u)(hp:h.objs.size<=a)(new:Z9 P w (upd H a o) h' a o):HOk P w (upd H a o) h':=fun b u e=>by
 have hn:=x.fresh hp
 by_cases hb:b=a
 . subst hb;rw[A6] at e;cases e;exact new
 . rw[C9 hb] at e
   exact(x b u e).stay (fun c v _ q=>k c v q) (fun c q=>by rw[C9 (D5 q hn)];exact q) fun c xs q=>by rw[C9 (D5 q hn)];exact q
end
noncomputable def Rd (H:Hp) (a:Addr) (u:HO):Prop:=H a=some u\/∃o,H a=some (.frz o u)
theorem Rd.ok{P:Program}{w:World}{H:Hp}{h:Heap}{a:Addr}{u:HO}(r:Rd H a u)(x:HOk P w H h):Z9 P w H h a u:=by
 rcases r with r|⟨o,r⟩
 . exact x a u r
 obtain⟨_,q⟩:=x a _ r
 exact q
noncomputable def Mut:Option HO ->Prop
 |some (.lst _)=>True
 |some (.dK _)=>True
 |some (.dT _)=>True
 |some (.set _ _)=>True
 |some (.ins _ _ _)=>True
 |some (.ext _)=>True
 |_=>False
section
variable{P:Program}{w:World}{H:Hp}{h h':Heap}{x e:Addr}{o':HO}
theorem HOk.write(ok:HOk P w H h)(mu:Mut (H x))(he:e=x\/H e=some (.own x))(k:∀b u,b≠e ->h.get? b=some u ->h'.get? b=some u)(heo:∃u,h'.get? e=some u)
   (new:Z9 P w (upd H x o') h' x o'):HOk P w (upd H x o') h':=fun b u q=>by
 have nown:∀c y,H c=some (.own y) ->c≠x:=fun c y r z=>by subst z;rw[r] at mu;exact mu
 have ntup:∀c xs,H c=some (.tup xs) ->c≠x:=fun c xs r z=>by subst z;rw[r] at mu;exact mu
 by_cases hb:b=x
 . subst hb;rw[A6] at q;cases q;exact new
 . rw[C9 hb] at q
   by_cases hbe:b=e
   . have q':H b=some (.own x):=by
       rcases he with z|z
       . exact absurd (hbe.trans z) hb
       . rw[hbe];exact z
     rw[q] at q';cases q'
     obtain⟨v,hv⟩:=heo
     exact⟨v,by rw[hbe];exact hv⟩
   . refine(ok b u q).stay (fun c v hc r=>k c v ?_ r) (fun c r=>by rw[C9 (nown c b r)];exact r) fun c xs r=>by rw[C9 (ntup c xs r)];exact r
     rcases hc with rfl|hc
     . exact hbe
     . rintro rfl
       rcases he with z|z
       . exact nown c b hc z
       . rw[hc] at z;cases z;exact hb rfl
end
structure Un(fs ex:List Addr)(H H':Hp)(h h':Heap):Prop where
 keep:∀b o,h.get? b=some o ->H b=none ->b ∉ fs ->b ∉ ex ->h'.get? b=some o
 slot:∀b o,h.get? b=some o ->H b=none ->b∈fs ->b ∉ ex ->∃sl,h'.get? b=some {o with slots:=sl}
 free:∀b o,h.get? b=some o ->H b=none ->b ∉ ex ->H' b=none
 there:∀b o,h.get? b=some o ->b ∉ ex ->∃o',h'.get? b=some o'
 tups:∀b xs,H b=some (.tup xs) ->H' b=some (.tup xs)
 frzs:∀b o u,H b=some (.frz o u) ->H' b=some (.frz o u)
 tbls:∀b ps,H b=some (.tbl ps) ->∃more,H' b=some (.tbl (ps++more))
section
variable{fs fs' ex ex':List Addr}{H H1 H2:Hp}{h h1 h2 h':Heap}{a x e:Addr}{o:HO}
theorem Un.any(u:Un fs ex H H1 h h1){b:Addr}{ob:Obj}(q:h.get? b=some ob)(n:H b=none)(hx:b ∉ ex):∃sl,h1.get? b=some {ob with slots:=sl}:=by
 by_cases hb:b∈fs
 . exact u.slot b ob q n hb hx
 exact⟨ob.slots,u.keep b ob q n hb hx⟩
theorem Un.kept(k:∀b u,h.get? b=some u ->h'.get? b=some u):Un fs ex H H h h':=
 ⟨fun b ob q _ _ _=>k b ob q,fun b ob q _ _ _=>⟨ob.slots,k b ob q⟩,fun _ _ _ n _=>n,fun b ob q _=>⟨ob,k b ob q⟩,fun _ _ q=>q,fun _ _ _ q=>q,fun _ ps q=>⟨#[],by rw[q];simp⟩⟩
theorem Un.refl:Un fs ex H H h h:=Un.kept fun _ _ q=>q
theorem Un.laid(k:∀b u,h.get? b=some u ->h'.get? b=some u)(hp:h.objs.size<=a)(hn:H a=none):Un fs ex H (upd H a o) h h' where
 keep:=fun b u q _ _ _=>k b u q
 slot:=fun b u q _ _ _=>⟨u.slots,k b u q⟩
 free:=fun b u q n _=>by rw[C9 (Nat.ne_of_lt (Nat.lt_of_lt_of_le (Heap.lt_size q) hp))];exact n
 there:=fun b u q _=>⟨u,k b u q⟩
 tups:=fun b xs q=>by rw[C9 (D5 q hn)];exact q
 frzs:=fun b u xs q=>by rw[C9 (D5 q hn)];exact q
 tbls:=fun b ps q=>⟨#[],by rw[C9 (D5 q hn),q];simp⟩
theorem Un.write(mu:Mut (H x))(he:e=x\/H e=some (.own x))(k:∀b u,b≠e ->h.get? b=some u ->h'.get? b=some u)(heo:∃u,h'.get? e=some u):Un fs ex H (upd H x o) h h':=by
 have hx:∀b,H b=none ->b≠x:=fun b n z=>by subst z;rw[n] at mu;exact mu
 have hb:∀b,H b=none ->b≠e:=fun b n z=>by
   subst z
   rcases he with r|r
   . exact hx b n r
   . rw[n] at r;cases r
 have hm:∀b u,H b=some u ->¬Mut (some u) ->b≠x:=fun b u q nm z=>by subst z;rw[q] at mu;exact nm mu
 refine⟨fun b u q n _ _=>k b u (hb b n) q,fun b u q n _ _=>⟨u.slots,k b u (hb b n) q⟩,fun b u q n _=>by rw[C9 (hx b n)];exact n,fun b u q _=>?_,
   fun b xs q=>by rw[C9 (hm b _ q fun z=>z)];exact q,fun b u xs q=>by rw[C9 (hm b _ q fun z=>z)];exact q,fun b ps q=>⟨#[],by rw[C9 (hm b _ q fun z=>z),q];simp⟩⟩
 by_cases hbe:b=e
 . subst hbe;exact heo
 exact⟨u,k b u hbe q⟩
end
noncomputable def trk (h:Heap) (H:Hp):List Addr:=(List.range h.objs.size).filter fun a=>(H a).isSome
noncomputable def B6k (h:Heap) (H:Hp):Heap:=PySem.W.hideAll h (trk h H)
theorem C8h(h:Heap)(H:Hp):(B6k h H).objs.size=h.objs.size:=PySem.W.hideAll_size _ _
theorem D1r{h:Heap}{H:Hp}{b:Addr}{o:Obj}(e:h.get? b=some o)(n:H b=none):(B6k h H).get? b=some o:=
 PySem.W.hideAll_get _ e fun hm=>by
   have q:(H b).isSome=true:=(List.mem_filter.mp hm).2
   rw[n] at q;simp at q
theorem G0f{h:Heap}{H:Hp}{b:Addr}{o:Obj}(e:(B6k h H).get? b=some o):h.get? b=some o/\H b=none:=by
 have e':h.get? b=some o:=PySem.W.of_hideAll (trk h H) e
 refine⟨e',?_⟩
 cases q:H b with
 |none=>rfl
 | some x=>
   have hm:b∈trk h H:=List.mem_filter.mpr ⟨List.mem_range.mpr (Heap.lt_size e'),by simp[q]⟩
   have z:(B6k h H).get? b=none:=PySem.W.hideAll_none (trk h H) hm
   rw[z] at e;cases e
structure Mod(K:PySem.W.Frag)(mg:Str ->Option Value)(base:Heap):Prop where
 kin:K.In base
 glob:base.Ns mainGlobals mg
 blt:∃mb,base.Ns builtinsNs mb/\∀x:Str,x≠"__name__" ->mb x=bootBuiltins x
 nolimit:base.NoLimit
structure Cx where
 prog:Program
 w:World
 K:PySem.W.Frag
 mg:Str ->Option Value
 base:Heap
 A:Around
 N:List Str
 s₀:Shared
 H₀:Hp
 env:Env
 outer:List Env
 stack:List Env
 ex:List Addr
 fn:Str ->Bool
 calm:Bool
 pn:List (Addr×Obj)
 xe:Value ->Shared ->Prop
noncomputable def frs (l:List Env):List Addr:=l.filterMap (·.frame)
noncomputable abbrev Cx.fs (X:Cx):List Addr:=frs X.outer
noncomputable def Vis (sc:Scope) (x:Str):Prop:=sc.names.lookup x=some .local\/sc.names.lookup x=some .cell\/sc.names.lookup x=some .free
noncomputable def Loc (sc:Scope) (x:Str):Prop:=sc.names.lookup x=some .local\/sc.names.lookup x=some .cell
noncomputable def J4d (env:Env) (h:Heap) (m:Str ->Option Value) (x:Str) (u:Value):Prop:=
 (env.kindOf x=some .local/\m x=some u)\/((env.kindOf x=some .cell\/env.kindOf x=some .free)/\∃c,env.cells.lookup x=some c/\h.IsCell c (some u))
structure Cx.Ok(X:Cx):Prop where
 mod:Mod X.K X.mg X.base
 kind:X.env.scope.kind= .function
 glob:X.env.globals=mainGlobals
 blt:X.env.builtins=builtinsNs
 above:X.s₀.heap.objs.size<=X.env.locals
 inj:∀x y c,X.env.cells.lookup x=some c ->X.env.cells.lookup y=some c ->x=y
 has:∀x,(X.env.kindOf x=some .cell\/X.env.kindOf x=some .free) ->∃c,X.env.cells.lookup x=some c
 cab:∀x c,X.fn x=true ->X.env.cells.lookup x=some c ->X.s₀.heap.objs.size<=c
 hd:X.calm=true ->X.A.handled=none
 frames:X.A.frames=some X.stack
 stk:X.stack=X.outer\/(X.stack=X.env::X.outer/\X.env.frame=some X.env.locals)
 exf:∀b∈X.ex,b≠X.env.locals/\∀x c,X.env.cells.lookup x=some c ->c≠b
 bs:∀b o,X.base.get? b=some o ->X.s₀.heap.get? b=some o/\X.H₀ b=none
 bsz:X.base.objs.size<=X.s₀.heap.objs.size
 noex:∀b o,X.base.get? b=some o ->b ∉ X.ex
 exfs:∀b∈X.ex,b ∉ X.fs
 funs:X.s₀.heap.FunFrames X.base X.outer
 frf:∀b∈X.fs,X.H₀ b=none
structure Inv(X:Cx)(pins:List (Addr×Obj))(σ:List (Option V))(H:Hp)(s:Shared):Prop where
 ok:X.Ok
 os:s.os=X.s₀.os
 bare:AllBare s.gens
 base:Un X.fs X.ex X.H₀ H X.s₀.heap s.heap
 loc:∃m,s.heap.Ns X.env.locals m/\∀(i:Nat) (x:Str) (v:V),X.N[i]?=some x ->σ[i]?=some (some v) ->Vis X.env.scope x ->∃u,U4 v u/\J4d X.env s.heap m x u
 cell:∀x c,X.env.cells.lookup x=some c ->∃v,s.heap.IsCell c v
 free:H X.env.locals=none
 freeC:∀x c,X.env.cells.lookup x=some c ->H c=none
 pin:∀p∈X.pn++pins,s.heap.get? p.1=some p.2/\H p.1=none/\p.1≠X.env.locals/\p.1 ∉ X.fs/\∀v,p.2.data≠ .cell v
 hok:HOk X.prog X.w H s.heap
 len:σ.length=X.N.length
section
variable{X:Cx}{pins:List (Addr×Obj)}{σ:List (Option V)}{H H':Hp}{s:Shared}{h':Heap}
theorem Cx.Ok.nofr(ok:X.Ok){b:Addr}{o:Obj}(e:X.base.get? b=some o):b ∉ X.fs:=fun hb=>by
 have:=(ok.funs.mem hb).1
 rw[e] at this;cases this
theorem Inv.bs(I:Inv X pins σ H s):∀b o,X.base.get? b=some o ->s.heap.get? b=some o/\H b=none:=fun b o e=>
 ⟨I.base.keep b o (I.ok.bs b o e).1 (I.ok.bs b o e).2 (I.ok.nofr e) (I.ok.noex b o e),I.base.free b o (I.ok.bs b o e).1 (I.ok.bs b o e).2 (I.ok.noex b o e)⟩
theorem Inv.bk(I:Inv X pins σ H s):∀b o,X.base.get? b=some o ->s.heap.get? b=some o:=fun b o e=>(I.bs b o e).1
theorem Inv.mod(I:Inv X pins σ H s):Mod X.K X.mg X.base:=I.ok.mod
theorem Inv.kIn(I:Inv X pins σ H s):X.K.In s.heap:=I.ok.mod.kin.keeps I.bk
theorem Inv.lt(I:Inv X pins σ H s):X.env.locals<s.heap.objs.size:=let⟨_,hn,_⟩:=I.loc;hn.lt
theorem Inv.sz(I:Inv X pins σ H s):X.s₀.heap.objs.size<=s.heap.objs.size:=Nat.le_trans I.ok.above (Nat.le_of_lt I.lt)
theorem Inv.nofs(I:Inv X pins σ H s){a:Addr}(h:s.heap.objs.size<=a):a ∉ X.fs:=fun hb=>by
 obtain⟨_,o,ho,_⟩:=I.ok.funs.mem hb
 exact absurd (Nat.lt_of_lt_of_le (Heap.lt_size ho) (Nat.le_trans I.sz h)) (Nat.lt_irrefl _)
theorem Inv.cne(I:Inv X pins σ H s):∀x c,X.env.cells.lookup x=some c ->c≠X.env.locals:=fun x c e z=>by
 obtain⟨v,o,ho,hd⟩:=I.cell x c e
 obtain⟨m,⟨o',es,ep,ho',hd',_⟩,_⟩:=I.loc
 rw[z,ho'] at ho;cases ho;rw[hd'] at hd;cases hd
theorem Inv.funs(I:Inv X pins σ H s):s.heap.FunFrames X.base X.outer:=by
 have all:∀(l:List Env),(∀b∈frs l,b∈X.fs) ->X.s₀.heap.FunFrames X.base l ->s.heap.FunFrames X.base l:=by
   intro l
   induction l with
   |nil=>intro _ _;trivial
   | cons env r ih=>
     intro hs hl
     obtain⟨hk,⟨L,o,hf,hn,ho,hd⟩,hr⟩:=hl
     have hL:L∈X.fs:=hs L (by unfold frs;rw[List.filterMap_cons,hf];exact List.mem_cons_self)
     obtain⟨sl,e⟩:=I.base.slot L o ho (I.ok.frf L hL) hL fun z=>I.ok.exfs L z hL
     exact⟨hk,⟨L,_,hf,hn,e,hd⟩,ih (fun b hb=>hs b (by unfold frs;rw[List.filterMap_cons,hf];exact List.mem_cons_of_mem _ hb)) hr⟩
 exact all X.outer (fun _ hb=>hb) I.ok.funs
theorem Inv.stack(I:Inv X pins σ H s):s.heap.FunFrames X.base X.stack:=by
 rcases I.ok.stk with e|⟨e,hf⟩
 . rw[e];exact I.funs
 rw[e]
 obtain⟨m,hn,_⟩:=I.loc
 refine .cons (by rw[I.ok.kind];decide) hf hn ?_ I.funs
 exact Heap.get?_none_of_le (Nat.le_trans I.ok.bsz I.ok.above)
theorem Inv.stkSub(I:Inv X pins σ H s):∀b∈frs X.stack,b∈X.env.locals::X.fs:=fun b hb=>by
 rcases I.ok.stk with e|⟨e,hf⟩
 . rw[e] at hb;exact List.mem_cons_of_mem _ hb
 . rw[e] at hb
   unfold frs at hb
   rw[List.filterMap_cons,hf] at hb
   exact hb
theorem Inv.stkFree(I:Inv X pins σ H s):∀b∈frs X.stack,H b=none:=fun b hb=>by
 rcases List.mem_cons.mp (I.stkSub b hb) with e|hb
 . rw[e];exact I.free
 . obtain⟨_,o,ho,_⟩:=I.ok.funs.mem hb
   exact I.base.free b o ho (I.ok.frf b hb) fun z=>I.ok.exfs b z hb
theorem Inv.step{g':Array GenState}{t':Nat}{d':Drawn}{ch:List Addr}(I:Inv X pins σ H s)
   (hch:∀b∈ch,(b∈X.ex\/X.s₀.heap.objs.size<=b)/\b≠X.env.locals/\(∀x c,X.env.cells.lookup x=some c ->c≠b)/\∀p∈X.pn++pins,p.1≠b)
   (keep:∀b o,b≠X.env.locals ->b ∉ X.fs ->b ∉ ch ->s.heap.get? b=some o ->H b=none ->h'.get? b=some o)
   (slot:∀b o,b≠X.env.locals ->b∈X.fs ->b ∉ ch ->s.heap.get? b=some o ->H b=none ->∃sl,h'.get? b=some {o with slots:=sl}) (free:∀b o,b ∉ ch ->s.heap.get? b=some o ->H b=none ->H' b=none)
   (there:∀b o,b ∉ ch ->s.heap.get? b=some o ->∃o',h'.get? b=some o')
   (tups:∀b xs,H b=some (.tup xs) ->H' b=some (.tup xs)) (frzs:∀b o u,H b=some (.frz o u) ->H' b=some (.frz o u)) (tbls:∀b ps,H b=some (.tbl ps) ->∃more,H' b=some (.tbl (ps++more)))
   (ns:∀m,s.heap.Ns X.env.locals m ->h'.Ns X.env.locals m) (hok:HOk X.prog X.w H' h') (hg:AllBare g'):
   Inv X pins σ H' {s with heap:=h',gens:=g',drawn:=d',toks:=t'}:=by
 have neL:∀b o,X.s₀.heap.get? b=some o ->b≠X.env.locals:=fun b o e=>Nat.ne_of_lt (Nat.lt_of_lt_of_le (Heap.lt_size e) I.ok.above)
 have neC:∀b o,X.s₀.heap.get? b=some o ->b ∉ X.ex ->b ∉ ch:=fun b o e hx hb=>by
   rcases(hch b hb).1 with z|z
   . exact hx z
   . exact absurd (Nat.lt_of_lt_of_le (Heap.lt_size e) z) (Nat.lt_irrefl _)
 have cellK:∀x c,X.env.cells.lookup x=some c ->∀v,s.heap.IsCell c v ->h'.IsCell c v:=fun x c e v ⟨o,ho,hd⟩=>by
   have nch:c ∉ ch:=fun z=>(hch c z).2.2.1 x c e rfl
   by_cases hc:c∈X.fs
   . obtain⟨sl,q⟩:=slot c o (I.cne x c e) hc nch ho (I.freeC x c e)
     exact⟨_,q,hd⟩
   . exact⟨o,keep c o (I.cne x c e) hc nch ho (I.freeC x c e),hd⟩
 refine⟨I.ok,I.os,hg,⟨fun b o e n hb hx=>?_,fun b o e n hb hx=>?_,fun b o e n hx=>?_,fun b o e hx=>?_,fun b xs e=>tups b xs (I.base.tups b xs e),fun b o xs e=>frzs b o xs (I.base.frzs b o xs e),fun b ps e=>?_⟩,?_,fun x c e=>?_,?_,fun x c e=>?_,fun p hp=>?_,hok,I.len⟩
 . exact keep b o (neL b o e) hb (neC b o e hx) (I.base.keep b o e n hb hx) (I.base.free b o e n hx)
 . obtain⟨sl,e1⟩:=I.base.slot b o e n hb hx
   obtain⟨sl',e2⟩:=slot b _ (neL b o e) hb (neC b o e hx) e1 (I.base.free b o e n hx)
   exact⟨sl',e2⟩
 . obtain⟨o',e1⟩:=I.base.there b o e hx
   exact free b o' (neC b o e hx) e1 (I.base.free b o e n hx)
 . obtain⟨o',e1⟩:=I.base.there b o e hx
   exact there b o' (neC b o e hx) e1
 . obtain⟨m1,e1⟩:=I.base.tbls b ps e
   obtain⟨m2,e2⟩:=tbls b _ e1
   exact⟨m1++m2,by rw[e2,Array.append_assoc]⟩
 . obtain⟨m,hn,hl⟩:=I.loc
   refine⟨m,ns m hn,fun i x v e1 e2 e3=>?_⟩
   obtain⟨u,r,l⟩:=hl i x v e1 e2 e3
   refine⟨u,r,?_⟩
   rcases l with l|⟨k,c,e,z⟩
   . exact .inl l
   . exact .inr ⟨k,c,e,cellK x c e _ z⟩
 . obtain⟨v,z⟩:=I.cell x c e
   exact⟨v,cellK x c e v z⟩
 . obtain⟨m,⟨o,_,_,ho,_⟩,_⟩:=I.loc
   exact free _ o (fun z=>(hch _ z).2.1 rfl) ho I.free
 . obtain⟨v,o,ho,hd⟩:=I.cell x c e
   exact free c o (fun z=>(hch c z).2.2.1 x c e rfl) ho (I.freeC x c e)
 obtain⟨e,n,ne,nf,d⟩:=I.pin p hp
 have nch:p.1 ∉ ch:=fun z=>(hch p.1 z).2.2.2 p hp rfl
 exact⟨keep p.1 p.2 ne nf nch e n,free p.1 p.2 nch e n,ne,nf,d⟩
theorem Inv.un{t':Nat}(I:Inv X pins σ H s)(u:Un X.fs [] H H' s.heap h')(hok:HOk X.prog X.w H' h'):Inv X pins σ H' {s with heap:=h',toks:=t'}:=by
 obtain⟨m,⟨o,es,ep,ho,r⟩,_⟩:=id I.loc
 obtain⟨sl,hL⟩:=u.any ho I.free (by simp)
 exact I.step (g':=s.gens) (d':=s.drawn) (ch:=[]) (fun _ z=>nomatch z) (fun b o _ hb _ e n=>u.keep b o e n hb (by simp)) (fun b o _ hb _ e n=>u.slot b o e n hb (by simp)) (fun b o _ e n=>u.free b o e n (by simp)) (fun b o _ e=>u.there b o e (by simp)) u.tups u.frzs u.tbls (fun m' hm=>by
   obtain⟨o',es',ep',ho',r'⟩:=hm
   rw[ho] at ho';cases ho'
   exact⟨_,es',ep',hL,r'⟩) hok I.bare
theorem Inv.call{g':Array GenState}{t':Nat}{d':Drawn}{ch:List Addr}(I:Inv X pins σ H s)(u:Un (frs X.stack) ch H H' s.heap h')(hok:HOk X.prog X.w H' h')(hg:AllBare g')
   (hch:∀b∈ch,(b∈X.ex\/X.s₀.heap.objs.size<=b)/\b≠X.env.locals/\(∀x c,X.env.cells.lookup x=some c ->c≠b)/\∀p∈X.pn++pins,p.1≠b):
   Inv X pins σ H' {s with heap:=h',gens:=g',drawn:=d',toks:=t'}:=by
 obtain⟨m,⟨o,es,ep,ho,r⟩,_⟩:=id I.loc
 obtain⟨sl,hL⟩:=u.any ho I.free fun z=>(hch _ z).2.1 rfl
 exact I.step (ch:=ch) hch (fun b o hL hb hc e n=>u.keep b o e n (fun z=>(List.mem_cons.mp (I.stkSub b z)).elim hL hb) hc) (fun b o _ _ hc e n=>u.any e n hc) (fun b o hc e n=>u.free b o e n hc) (fun b o hc e=>u.there b o e hc) u.tups u.frzs u.tbls (fun m' hm=>by
   obtain⟨o',es',ep',ho',r'⟩:=hm
   rw[ho] at ho';cases ho'
   exact⟨_,es',ep',hL,r'⟩) hok hg
theorem Inv.turned{t':Nat}{it:Addr}(I:Inv X pins σ H s)(k:∀b o,b≠it ->s.heap.get? b=some o ->h'.get? b=some o)(hn:H it=none)(hL:it≠X.env.locals)
   (h1:it∈X.ex\/X.s₀.heap.objs.size<=it) (h2:∀x c,X.env.cells.lookup x=some c ->c≠it) (h3:∀p∈X.pn++pins,p.1≠it):Inv X pins σ H {s with heap:=h',toks:=t'}:=by
 have nit:∀b u,H b=some u ->b≠it:=fun b u e z=>by rw[z,hn] at e;cases e
 refine I.step (g':=s.gens) (d':=s.drawn) (ch:=[it]) (fun b hb=>?_) (fun b o _ _ hc e _=>k b o (fun z=>hc (by simp[z])) e) (fun b o _ _ hc e _=>⟨o.slots,k b o (fun z=>hc (by simp[z])) e⟩) (fun _ _ _ _ n=>n)
   (fun b o hc e=>⟨o,k b o (fun z=>hc (by simp[z])) e⟩) (fun _ _ e=>e) (fun _ _ _ e=>e) (fun b ps e=>⟨#[],by rw[e];simp⟩) (fun m hm=>?_) (fun b u e=>?_) I.bare
 . have e:b=it:=by simpa using hb
   subst e
   exact⟨h1,hL,h2,h3⟩
 . obtain⟨o,es,ep,ho,r⟩:=hm
   exact⟨o,es,ep,k _ o (Ne.symm hL) ho,r⟩
 refine(I.hok b u e).stay (fun c v hc q=>k c v ?_ q) (fun _ q=>q) fun _ _ q=>q
 rcases hc with z|z
 . rw[z];exact nit b u e
 exact nit c _ z
theorem Inv.tok(I:Inv X pins σ H s)(t:Nat):Inv X pins σ H {s with toks:=t}:=I.un (h':=s.heap) (t':=t) Un.refl I.hok
theorem Inv.kept{t':Nat}(I:Inv X pins σ H s)(k:∀b u,s.heap.get? b=some u ->h'.get? b=some u):Inv X pins σ H {s with heap:=h',toks:=t'}:=I.un (Un.kept k) (I.hok.kept k)
theorem Inv.laid{a:Addr}{o:HO}{t':Nat}(I:Inv X pins σ H s)(k:∀b u,s.heap.get? b=some u ->h'.get? b=some u)(hp:s.heap.objs.size<=a)(new:Z9 X.prog X.w (upd H a o) h' a o):
   Inv X pins σ (upd H a o) {s with heap:=h',toks:=t'}:=I.un (Un.laid k hp (I.hok.fresh hp)) (I.hok.laid k hp new)
theorem Inv.write{x e:Addr}{o:HO}{t':Nat}(I:Inv X pins σ H s)(mu:Mut (H x))(he:e=x\/H e=some (.own x))(k:∀b u,b≠e ->s.heap.get? b=some u ->h'.get? b=some u)(heo:∃u,h'.get? e=some u)
   (new:Z9 X.prog X.w (upd H x o) h' x o):Inv X pins σ (upd H x o) {s with heap:=h',toks:=t'}:=I.un (Un.write mu he k heo) (I.hok.write mu he k heo new)
theorem Inv.pins_of{pins':List (Addr×Obj)}(I:Inv X pins σ H s)(h:∀p∈pins',s.heap.get? p.1=some p.2/\H p.1=none/\p.1≠X.env.locals/\p.1 ∉ X.fs/\∀v,p.2.data≠ .cell v):Inv X pins' σ H s:=
 ⟨I.ok,I.os,I.bare,I.base,I.loc,I.cell,I.free,I.freeC,fun p hp=>(List.mem_append.mp hp).elim (fun z=>I.pin p (List.mem_append_left _ z)) (h p),I.hok,I.len⟩
theorem A4k{N:List Str}(hN:N.Nodup){i j:Nat}{x:Str}(a:N[i]?=some x)(b:N[j]?=some x):i=j:=by
 obtain⟨h1,e1⟩:=List.getElem?_eq_some_iff.mp a
 obtain⟨h2,e2⟩:=List.getElem?_eq_some_iff.mp b
 exact(List.getElem_inj hN).mp (e1.trans e2.symm)
theorem B4c{M:Model}{A:Around}{E:Value ->Shared ->Prop}{i:Nat}{x:Str}{v:V}{u:Value}{Q:Unit ->Shared ->Prop}(I:Inv X pins σ H s)(hN:X.N.Nodup)(hi:X.N[i]?=some x)(hx:Loc X.env.scope x)(r:U4 v u)
   (h:∀s',Inv X pins (σ.set i (some v)) H s' ->(∃a,Heap.SameBut a s.heap s'.heap/\(a=X.env.locals\/X.env.cells.lookup x=some a)) ->Q () s') (hf:X.fn x=true\/X.env.scope.names.lookup x=some .local:=by first|exact .inl rfl|exact .inr rfl|assumption):wpAny M A (storeName X.env x u) Q E s:=by
 obtain⟨m,hn,hl⟩:=id I.loc
 have hcls:(X.env.scope.kind== .class||(X.env.scope.kind== .module&&X.env.locals !=X.env.globals))=false:=by rw[I.ok.kind];rfl
 have hiσ:i<σ.length:=by rw[I.len];exact(List.getElem?_eq_some_iff.mp hi).1
 have cne:=I.cne
 have tracked:∀{a:Addr} {h':Heap},(∃o,s.heap.get? a=some o/\H a=none) ->Heap.SameBut a s.heap h' ->HOk X.prog X.w H h':=fun{a h'} ha hs b ob e=>by
   obtain⟨_,_,hfree⟩:=ha
   refine(I.hok b ob e).stay (fun c w' hc q=>(hs.2 c ?_).trans q) (fun _ q=>q) fun _ _ q=>q
   rintro rfl
   rcases hc with rfl|hc
   . rw[hfree] at e;cases e
   . rw[hfree] at hc;cases hc
 rcases hx with hk|hk
 . refine wpAny_storeName_local hk hn (fun h' hn' hs=>?_) hcls
   obtain⟨oL,_,_,hoL,_⟩:=id hn
   refine h _ ⟨I.ok,I.os,I.bare,⟨fun b o e n hb hx=>?_,fun b o e n hb hx=>?_,I.base.free,fun b o e hx=>?_,I.base.tups,I.base.frzs,I.base.tbls⟩,⟨_,hn',fun j y v' e1 e2 e3=>?_⟩,fun y c e=>?_,I.free,I.freeC,fun p hp=>?_,tracked ⟨oL,hoL,I.free⟩ hs,by simpa using I.len⟩ ⟨_,hs,.inl rfl⟩
   . exact(hs.2 b (Nat.ne_of_lt (Nat.lt_of_lt_of_le (Heap.lt_size e) I.ok.above))).trans (I.base.keep b o e n hb hx)
   . obtain⟨sl,e1⟩:=I.base.slot b o e n hb hx
     exact⟨sl,(hs.2 b (Nat.ne_of_lt (Nat.lt_of_lt_of_le (Heap.lt_size e) I.ok.above))).trans e1⟩
   . obtain⟨o',e1⟩:=I.base.there b o e hx
     exact⟨o',(hs.2 b (Nat.ne_of_lt (Nat.lt_of_lt_of_le (Heap.lt_size e) I.ok.above))).trans e1⟩
   . by_cases hj:j=i
     . subst hj
       rw[hi] at e1;cases e1
       rw[List.getElem?_set_self hiσ] at e2
       cases e2
       exact⟨u,r,.inl ⟨hk,by simp⟩⟩
     . rw[List.getElem?_set_ne (Ne.symm hj)] at e2
       obtain⟨u',r',q⟩:=hl j y v' e1 e2 e3
       refine⟨u',r',?_⟩
       rcases q with⟨k,e⟩|⟨k,c,e,z⟩
       . refine .inl ⟨k,?_⟩
         have:y≠x:=fun e=>hj (A4k hN e1 (e▸hi))
         simp[this,e]
       . exact .inr ⟨k,c,e,z.sameBut hs (cne y c e)⟩
   . obtain⟨w',z⟩:=I.cell y c e
     exact⟨w',z.sameBut hs (cne y c e)⟩
   . obtain⟨e,n,ne,nf,d⟩:=I.pin p hp
     exact⟨(hs.2 p.1 ne).trans e,n,ne,nf,d⟩
 have hfn:X.fn x=true:=by
   rcases hf with z|z
   . exact z
   . rw[z] at hk;cases hk
 obtain⟨c,hc⟩:=I.ok.has x (.inl hk)
 obtain⟨w',z⟩:=I.cell x c hc
 refine wpAny_storeName_cell I.ok.kind hk hc z (fun h' hc' hs=>?_)
 obtain⟨oc,hoc,hocd⟩:=id z
 refine h {s with heap:=h'} ⟨I.ok,I.os,I.bare,⟨fun b o e n hb hx=>?_,fun b o e n hb hx=>?_,I.base.free,fun b o e hx=>?_,I.base.tups,I.base.frzs,I.base.tbls⟩,⟨m,hn.sameBut hs (Ne.symm (cne x c hc)),fun j y v' e1 e2 e3=>?_⟩,fun y c' e=>?_,I.free,I.freeC,fun p hp=>?_,tracked ⟨oc,hoc,I.freeC x c hc⟩ hs,by simpa using I.len⟩ ⟨c,hs,.inr hc⟩
 . exact(hs.2 b (Nat.ne_of_lt (Nat.lt_of_lt_of_le (Heap.lt_size e) (I.ok.cab x c hfn hc)))).trans (I.base.keep b o e n hb hx)
 . obtain⟨sl,e1⟩:=I.base.slot b o e n hb hx
   exact⟨sl,(hs.2 b (Nat.ne_of_lt (Nat.lt_of_lt_of_le (Heap.lt_size e) (I.ok.cab x c hfn hc)))).trans e1⟩
 . obtain⟨o',e1⟩:=I.base.there b o e hx
   exact⟨o',(hs.2 b (Nat.ne_of_lt (Nat.lt_of_lt_of_le (Heap.lt_size e) (I.ok.cab x c hfn hc)))).trans e1⟩
 . by_cases hj:j=i
   . subst hj
     rw[hi] at e1;cases e1
     rw[List.getElem?_set_self hiσ] at e2
     cases e2
     exact⟨u,r,.inr ⟨.inl hk,c,hc,hc'⟩⟩
   . rw[List.getElem?_set_ne (Ne.symm hj)] at e2
     obtain⟨u',r',q⟩:=hl j y v' e1 e2 e3
     refine⟨u',r',?_⟩
     rcases q with q|⟨k,c',e,z'⟩
     . exact .inl q
     . refine .inr ⟨k,c',e,z'.sameBut hs ?_⟩
       rintro rfl
       exact hj (A4k hN e1 (I.ok.inj _ _ _ e hc▸hi))
 . by_cases hcc:c'=c
   . subst hcc;exact⟨_,hc'⟩
   . obtain⟨w2,z2⟩:=I.cell y c' e
     exact⟨w2,z2.sameBut hs hcc⟩
 obtain⟨e,n,ne,nf,d⟩:=I.pin p hp
 refine⟨(hs.2 p.1 ?_).trans e,n,ne,nf,d⟩
 intro q
 rw[q,hoc] at e
 have q':oc=p.2:=Option.some.inj e
 exact d w' (by rw[<-q'];exact hocd)
theorem A2r{M:Model}{A:Around}{E:Value ->Shared ->Prop}{i:Nat}{x:Str}{v:V}{u:Value}{Q:Unit ->Shared ->Prop}(I:Inv X pins σ H s)(hN:X.N.Nodup)(hi:X.N[i]?=some x)(hx:Loc X.env.scope x)(r:U4 v u)
   (h:∀s',Inv X pins (σ.set i (some v)) H s' ->Q () s') (hf:X.fn x=true\/X.env.scope.names.lookup x=some .local:=by first|exact .inl rfl|exact .inr rfl|assumption):wpAny M A (storeName X.env x u) Q E s:=
 B4c I hN hi hx r (fun s' I' _=>h s' I') hf
theorem Inv.call'{s':Shared}{ch:List Addr}(I:Inv X pins σ H s)(ho:s'.os=s.os)(u:Un (frs X.stack) ch H H' s.heap s'.heap)(hok:HOk X.prog X.w H' s'.heap)(hg:AllBare s'.gens)
   (hch:∀b∈ch,(b∈X.ex\/X.s₀.heap.objs.size<=b)/\b≠X.env.locals/\(∀x c,X.env.cells.lookup x=some c ->c≠b)/\∀p∈X.pn++pins,p.1≠b):Inv X pins σ H' s':=by
 obtain⟨h',g',d',t',o'⟩:=s'
 have e:o'=s.os:=ho
 subst e
 exact I.call (g':=g') (t':=t') (d':=d') u hok hg hch
end
noncomputable abbrev XK:=Value ->Option Addr ->Hp ->Prop
noncomputable abbrev St:=List (Option V)
noncomputable abbrev VK:=V ->Hp ->Prop
noncomputable abbrev TE:=St ->Hp ->VK ->Prop
noncomputable abbrev TT:=St ->Hp ->(Bool ->Hp ->Prop) ->Prop
noncomputable abbrev TA:=St ->Hp ->(List V ->Hp ->Prop) ->Prop
structure A9r where
 nx:St ->Hp ->Prop
 rt:VK
 bk:St ->Hp ->Prop:=fun _ _=>False
 ct:St ->Hp ->Prop:=fun _ _=>False
noncomputable abbrev TS:=A9r ->St ->Hp ->Prop
noncomputable def EP (X:Cx) (pins:List (Addr×Obj)) (σ:St) (Q:VK) (u:Value) (s':Shared):Prop:=∃v H',Inv X pins σ H' s'/\U4 v u/\Q v H'
noncomputable def TP (X:Cx) (pins:List (Addr×Obj)) (σ:St) (Q:Bool ->Hp ->Prop) (b:Bool) (s':Shared):Prop:=∃H',Inv X pins σ H' s'/\Q b H'
noncomputable def AP (X:Cx) (pins:List (Addr×Obj)) (σ:St) (Q:List V ->Hp ->Prop) (us:List Value) (s':Shared):Prop:=∃vs H',Inv X pins σ H' s'/\J0 vs us/\Q vs H'
noncomputable def SP (X:Cx) (pins:List (Addr×Obj)) (D:A9r) (f:Flow) (s':Shared):Prop:=
 match f with
 | .next=>∃σ' H',Inv X pins σ' H' s'/\D.nx σ' H'
 | .brk=>∃σ' H',Inv X pins σ' H' s'/\D.bk σ' H'
 | .cont=>∃σ' H',Inv X pins σ' H' s'/\D.ct σ' H'
 | .ret u=>∃v σ' H',Inv X pins σ' H' s'/\U4 v u/\D.rt v H'
noncomputable def PE (X:Cx) (e:Expr) (t:TE):Prop:=
 ∀(pins:List (Addr×Obj)) (s:Shared) (σ:St) (H:Hp) (Q:VK),Inv X pins σ H s ->t σ H Q ->wpAny (model X.prog X.w) X.A (eval e X.env) (EP X pins σ Q) X.xe s
noncomputable def PT (X:Cx) (e:Expr) (t:TT):Prop:=
 ∀(pins:List (Addr×Obj)) (s:Shared) (σ:St) (H:Hp) (Q:Bool ->Hp ->Prop),Inv X pins σ H s ->t σ H Q ->wpAny (model X.prog X.w) X.A (isTrue e X.env (eval e X.env)) (TP X pins σ Q) X.xe s
noncomputable def PW (X:Cx) (e:Expr) (t:TT):Prop:=
 ∀(whole:Sem Value) (pins:List (Addr×Obj)) (s:Shared) (σ:St) (H:Hp) (Q:Bool ->Hp ->Prop),Inv X pins σ H s ->t σ H Q ->wpAny (model X.prog X.w) X.A (isTrue e X.env whole) (TP X pins σ Q) X.xe s
theorem PW.pt{X:Cx}{e:Expr}{t:TT}(h:PW X e t):PT X e t:=h _
noncomputable def PA (X:Cx) (es:List Expr) (t:TA):Prop:=
 ∀(pos:Pos) (pins:List (Addr×Obj)) (s:Shared) (σ:St) (H:Hp) (Q:List V ->Hp ->Prop),Inv X pins σ H s ->t σ H Q ->wpAny (model X.prog X.w) X.A (spliced (backTo pos (starEach es X.env))) (AP X pins σ Q) X.xe s
noncomputable def PS (X:Cx) (st:Stmt) (t:TS):Prop:=
 ∀(pins:List (Addr×Obj)) (s:Shared) (σ:St) (H:Hp) (D:A9r),Inv X pins σ H s ->t D σ H ->wpAny (model X.prog X.w) X.A (exec st X.env) (SP X pins D) X.xe s
noncomputable def PSs (X:Cx) (st:List Stmt) (t:TS):Prop:=
 ∀(pins:List (Addr×Obj)) (s:Shared) (σ:St) (H:Hp) (D:A9r),Inv X pins σ H s ->t D σ H ->wpAny (model X.prog X.w) X.A (execs st X.env) (SP X pins D) X.xe s
theorem thn{α:Type}{t:Sem α}{Q Q':α ->Shared ->Prop}{M:Model}{A:Around}{E:Value ->Shared ->Prop}{s:Shared}(h:wpAny M A t Q E s)(hQ:∀a s,Q a s ->Q' a s):wpAny M A t Q' E s:=wpAny_mono h hQ fun _ _ x=>x
section
variable{X:Cx}
noncomputable def G5d (i:Nat):TE:=fun σ H Q=>∃v,σ[i]?=some (some v)/\Q v H
noncomputable def tC (v:V):TE:=fun _ H Q=>Q v H
theorem G7q{i:Nat}{x:Str}{pos:Pos}(hN:X.N[i]?=some x)(hv:Vis X.env.scope x)(hd:(x==("__debug__":Str))=false:=by decide)(hcd:(x==("__classdict__":Str))=false:=by decide):PE X (.Name x pos) (G5d i):=by
 intro pins s σ H Q I h
 obtain⟨v,e,h⟩:=h
 obtain⟨m,hn,hl⟩:=I.loc
 obtain⟨u,r,l⟩:=hl i x v hN e hv
 have fin:EP X pins σ Q u s:=⟨v,H,I,r,h⟩
 rcases l with⟨hk,hm⟩|⟨hk,c,hc,hcell⟩
 . exact wpAny_Name (wpAny_loadName_local I.ok.kind hk hn hm fin) hd
 rcases hk with hk|hk
 . exact wpAny_Name (wpAny_loadName_cell I.ok.kind hk hc hcell fin) hd
 exact wpAny_Name (wpAny_loadName_free I.ok.kind hk hc hcell fin hcd) hd
theorem A7{i j pos}:PE X (.Constant (.int i) j pos) (tC (.int i)):=fun _ _ _ H _ I h=>wpAny_Constant_int ⟨.int i,H,I.tok _,⟨_,rfl⟩,h⟩
theorem A6v{b j pos}:PE X (.Constant (.bool b) j pos) (tC (.bl b)):=fun _ _ _ H _ I h=>Constant_bool ⟨.bl b,H,I,rfl,h⟩
theorem G5c{j pos}:PE X (.Constant .none j pos) (tC .non):=fun _ _ _ H _ I h=>Constant_none ⟨.non,H,I,rfl,h⟩
theorem A3{x j pos}:PE X (.Constant (.str x) j pos) (tC (.str x)):=fun _ _ _ H _ I h=>Calls.Constant_str ⟨.str x,H,I.tok _,⟨_,rfl⟩,h⟩
noncomputable def Gl (X:Cx) (x:Str):Prop:=X.env.kindOf x=some .globalImplicit
theorem Z8{E:Value ->Shared ->Prop}{pins:List (Addr×Obj)}{s:Shared}{σ:St}{H:Hp}{x:Str}{u:Value}{pos:Pos}{Q:Value ->Shared ->Prop}(I:Inv X pins σ H s)(hg:Gl X x)(hm:X.mg x=some u)(h:Q u s)
   (hd:(x==("__debug__":Str))=false:=by decide):wpAny (model X.prog X.w) X.A (eval (.Name x pos) X.env) Q E s:=
 Calls.Name_function_global I.ok.kind hg (Calls.loadGlobal_global (by rw[I.ok.glob];exact I.mod.glob.keeps I.bk) hm h) hd
theorem B5w{E:Value ->Shared ->Prop}{pins:List (Addr×Obj)}{s:Shared}{σ:St}{H:Hp}{x:Str}{u:Value}{pos:Pos}{Q:Value ->Shared ->Prop}(I:Inv X pins σ H s)(hg:Gl X x)(hm:X.mg x=none)(hv:bootBuiltins x=some u)(h:Q u s)
   (hn:x≠"__name__":=by decide) (hd:(x==("__debug__":Str))=false:=by decide):wpAny (model X.prog X.w) X.A (eval (.Name x pos) X.env) Q E s:=by
 obtain⟨mb,h1,h2⟩:=I.mod.blt
 exact Calls.Name_function_global I.ok.kind hg (Calls.loadGlobal_builtin (by rw[I.ok.glob];exact I.mod.glob.keeps I.bk) hm (by rw[I.ok.blt];exact h1.keeps I.bk) ((h2 x hn).trans hv) h) hd
theorem G2h{x:Str}{v:V}{u:Value}{pos:Pos}(hg:Gl X x)(hm:X.mg x=some u)(r:U4 v u)(hd:(x==("__debug__":Str))=false:=by decide):PE X (.Name x pos) (tC v):=
 fun _ _ _ H _ I h=>Z8 I hg hm ⟨v,H,I,r,h⟩ hd
theorem G0z{x:Str}{v:V}{u:Value}{pos:Pos}(hg:Gl X x)(hm:X.mg x=none)(hv:bootBuiltins x=some u)(r:U4 v u)(hn:x≠"__name__":=by decide)(hd:(x==("__debug__":Str))=false:=by decide):PE X (.Name x pos) (tC v):=
 fun _ _ _ H _ I h=>B5w I hg hm hv ⟨v,H,I,r,h⟩ hn hd
variable{a b:Expr}{ta tb:TE}{pos:Pos}
noncomputable def PC (X:Cx) (op:CmpOp) (a b:Expr) (t:TE):Prop:=
 ∀ (pins:List (Addr×Obj)) (s:Shared) (σ:St) (H:Hp) (Q:VK),Inv X pins σ H s ->t σ H Q ->
   wpAny (model X.prog X.w) X.A (eval a X.env) (fun v s₁=>wpAny (model X.prog X.w) X.A (eval b X.env) (fun u s₂=>wpAny (model X.prog X.w) X.A (compareOp op v u) (EP X pins σ Q) X.xe s₂) X.xe s₁) X.xe s
noncomputable def tB (t:TE):TT:=fun σ H Q=>t σ H fun x H1=>∃c,x= .bl c/\Q c H1
theorem G5g{op:CmpOp}{t:TE}(h:PC X op a b t)(h1:behindInMarks op b=false:=by first|exact nobehind _ (by decide) (by decide)|rfl):PT X (.Compare a [op] [b] pos) (tB t):=by
 intro pins s σ H Q I hw
 refine wpAny_isTrue_Compare1 (thn (h pins s σ H _ I hw) fun v s1 h1=>thn h1 fun u s2 h2=>thn h2 fun c s3 hh_=>?_) h1
 obtain⟨x,H1,I1,r1,q1⟩:=hh_
 obtain⟨d,rfl,q⟩:=q1
 cases r1
 exact wpAny_truthy_bool ⟨H1,I1,q⟩
theorem V8{e:Expr}{t:TE}(h:PE X e t)(he:∀whole,isTrue e X.env whole=(do let v<-whole;standAt e.pos;holding [v] (truthy v)):=by intro _;rfl):PT X e (tB t):=by
 intro pins s σ H Q I hw
 refine isTrue_plain (thn (h pins s σ H _ I hw) fun v s1 hh_=>?_) (he _)
 obtain⟨x,H1,I1,r1,q1⟩:=hh_
 obtain⟨d,rfl,q⟩:=q1
 cases r1
 exact wpAny_truthy_bool ⟨H1,I1,q⟩
variable{tA tB':TT}{rest:List Expr}
noncomputable def J7t (t u:TT):TT:=fun σ H Q=>t σ H fun c H1=>if c=true then u σ H1 Q else Q false H1
noncomputable def tOr (t u:TT):TT:=fun σ H Q=>t σ H fun c H1=>if c=true then Q true H1 else u σ H1 Q
noncomputable def J6j (t:TT):TT:=fun σ H Q=>t σ H fun c H1=>Q (!c) H1
theorem A5j(ha:PT X a tA):PW X (.BoolOp .And [a] pos) tA:=by
 intro wh pins s σ H Q I h
 refine isTrue_and (thn (ha pins s σ H Q I h) fun c s1 e=>?_)
 cases c with
 |true=>exact isTrue_and_nil e
 |false=>exact e
theorem C1y(ha:PT X a tA):PW X (.BoolOp .Or [a] pos) tA:=by
 intro wh pins s σ H Q I h
 refine isTrue_or (thn (ha pins s σ H Q I h) fun c s1 e=>?_)
 cases c with
 |false=>exact isTrue_or_nil e
 |true=>exact e
theorem A9b(ha:PT X a tA)(hb:PW X (.BoolOp .And (b::rest) pos) tB'):PW X (.BoolOp .And (a::b::rest) pos) (J7t tA tB'):=by
 intro wh pins s σ H Q I h
 refine isTrue_and (thn (ha pins s σ H _ I h) fun c s1 ⟨H1,I1,q1⟩=>?_)
 cases c with
 |true=>exact hb wh pins s1 σ H1 Q I1 q1
 |false=>exact⟨H1,I1,q1⟩
theorem D1g(ha:PT X a tA)(hb:PW X (.BoolOp .Or (b::rest) pos) tB'):PW X (.BoolOp .Or (a::b::rest) pos) (tOr tA tB'):=by
 intro wh pins s σ H Q I h
 refine isTrue_or (thn (ha pins s σ H _ I h) fun c s1 ⟨H1,I1,q1⟩=>?_)
 cases c with
 |true=>exact⟨H1,I1,q1⟩
 |false=>exact hb wh pins s1 σ H1 Q I1 q1
theorem A1k(ha:PT X a tA):PT X (.UnaryOp .Not a pos) (J6j tA):=by
 intro pins s σ H Q I h
 exact isTrue_not (ha pins s σ H (fun c H1=>Q (!c) H1) I h)
noncomputable def J1f (ta tb:TE):TE:=fun σ H Q=>ta σ H fun x H1=>∃c,x= .bl c/\if c=true then tb σ H1 Q else Q (.bl false) H1
noncomputable def J7d (ta tb:TE):TE:=fun σ H Q=>ta σ H fun x H1=>∃c,x= .bl c/\if c=true then Q (.bl true) H1 else tb σ H1 Q
theorem A6f{op}{t:TE}(h:PE X a t):PE X (.BoolOp op [a] pos) t:=fun pins s σ H Q I hw=>BoolOp_one (h pins s σ H Q I hw)
theorem A6e(ha:PE X a ta)(hb:PE X (.BoolOp .And (b::rest) pos) tb):PE X (.BoolOp .And (a::b::rest) pos) (J1f ta tb):=by
 intro pins s σ H Q I h
 refine BoolOp_and (thn (ha pins s σ H _ I h) fun v s1 hh_=>?_)
 obtain⟨x,H1,I1,r1,q1⟩:=hh_
 obtain⟨c,rfl,q1⟩:=q1
 cases r1
 refine wpAny_truthy_bool ?_
 cases c with
 |true=>exact hb pins s1 σ H1 Q I1 q1
 |false=>exact⟨.bl false,H1,I1,rfl,q1⟩
theorem J2u(ha:PE X a ta)(hb:PE X (.BoolOp .Or (b::rest) pos) tb):PE X (.BoolOp .Or (a::b::rest) pos) (J7d ta tb):=by
 intro pins s σ H Q I h
 refine BoolOp_or (thn (ha pins s σ H _ I h) fun v s1 hh_=>?_)
 obtain⟨x,H1,I1,r1,q1⟩:=hh_
 obtain⟨c,rfl,q1⟩:=q1
 cases r1
 refine wpAny_truthy_bool ?_
 cases c with
 |false=>exact hb pins s1 σ H1 Q I1 q1
 |true=>exact⟨.bl true,H1,I1,rfl,q1⟩
noncomputable def tIf (t:TT) (ta tb:TE):TE:=fun σ H Q=>t σ H fun c H1=>if c=true then ta σ H1 Q else tb σ H1 Q
theorem U1{c:Expr}(hc:PT X c tA)(ha:PE X a ta)(hb:PE X b tb):PE X (.IfExp c a b pos) (tIf tA ta tb):=by
 intro pins s σ H Q I h
 refine wpAny_IfExp (thn (hc pins s σ H _ I h) fun d s1 ⟨H1,I1,q1⟩=>?_)
 cases d with
 |true=>exact ha pins s1 σ H1 Q I1 q1
 |false=>exact hb pins s1 σ H1 Q I1 q1
end
noncomputable def SqL (K:PySem.W.Frag) (H:Hp) (a:Addr) (xs:List V):Prop:=
 Rd H a (.lst xs)\/
   ∃(o:Obj) (its:Array Value) (n:Nat),K.lookup a=some o/\o.cls= .type "list"/\o.dict=none/\o.data= .seq its n/\its.size<=sizeLine/\J0 xs its.toList
noncomputable def SqT (K:PySem.W.Frag) (H:Hp) (a:Addr) (xs:List V):Prop:=
 Rd H a (.tup xs)\/
   ∃(o:Obj) (its:Array Value) (n:Nat),K.lookup a=some o/\o.cls= .type "tuple"/\o.data= .seq its n/\its.size<=sizeLine/\J0 xs its.toList
noncomputable def J6u:Value ->Option V
 | .none=>some .non
 | .bool b=>some (.bl b)
 | .int i _=>some (.int i)
 | .str x _=>some (.str x)
 | .bytes b _=>some (.byt b)
 | .float b _=>some (.flt b)
 | .ref a=>some (.ref a)
 | .type n=>some (.ty n)
 |_=>none
theorem U4.abs{x:V}{u:Value}(r:U4 x u):J6u u=some x:=by
 cases x with
 |non=>cases r;rfl
 |bl _=>cases r;rfl
 |int _=>obtain⟨t,rfl⟩:=r;rfl
 |str _=>obtain⟨t,rfl⟩:=r;rfl
 |byt _=>obtain⟨t,rfl⟩:=r;rfl
 |flt _=>obtain⟨t,rfl⟩:=r;rfl
 |ref _=>cases r;rfl
 |ty _=>cases r;rfl
theorem U4.inj{x y:V}{u:Value}(r:U4 x u)(q:U4 y u):x=y:=Option.some.inj (r.abs.symm.trans q.abs)
theorem J0.inj:∀{xs ys:List V} {us:List Value},J0 xs us ->J0 ys us ->xs=ys
 |_,_,_,.nil,.nil=>rfl
 |_,_,_,.cons r t,.cons r' t'=>by rw[r.inj r',J0.inj t t']
section
variable{X:Cx}{pins:List (Addr×Obj)}{σ:St}{H:Hp}{s:Shared}{a:Addr}{xs ys:List V}
theorem SqL.of{K:PySem.W.Frag}(h:H a=some (.lst xs)):SqL K H a xs:= .inl (.inl h)
theorem SqT.of{K:PySem.W.Frag}(h:H a=some (.tup xs)):SqT K H a xs:= .inl (.inl h)
theorem Inv.list(I:Inv X pins σ H s)(h:SqL X.K H a xs):∃its:List Value,J0 xs its/\PlainL s.heap a its.toArray/\xs.length<=sizeLine:=by
 rcases h with h|⟨o,its,n,hk,hc,hd,hs,hz,r⟩
 . obtain⟨z,its,n,r,e⟩:=h.ok I.hok
   exact⟨its,r,⟨_,n,e,rfl,rfl,rfl⟩,z⟩
 refine⟨its.toList,r,⟨o,n,I.kIn a o hk,hc,hd,by simpa using hs⟩,?_⟩
 have e:=r.length
 simp only[Array.length_toList] at e
 omega
theorem Inv.tuple(I:Inv X pins σ H s)(h:SqT X.K H a xs):∃its:List Value,J0 xs its/\IsTup s.heap a its.toArray/\xs.length<=sizeLine:=by
 rcases h with h|⟨o,its,n,hk,hc,hs,hz,r⟩
 . obtain⟨z,its,r,p⟩:=h.ok I.hok
   exact⟨its,r,p,z⟩
 refine⟨its.toList,r,⟨o,I.kIn a o hk,hc,n,by simpa using hs⟩,?_⟩
 have e:=r.length
 simp only[Array.length_toList] at e
 omega
theorem Inv.list_inj(I:Inv X pins σ H s)(h:SqL X.K H a xs)(h':SqL X.K H a ys):xs=ys:=by
 obtain⟨its,r,⟨o,n,e,_,_,d⟩,_⟩:=I.list h
 obtain⟨its',r',⟨o',n',e',_,_,d'⟩,_⟩:=I.list h'
 rw[e] at e';cases e'
 rw[d] at d'
 injection d' with d1 _
 have:its=its':=by simpa using congrArg Array.toList d1
 subst this
 exact r.inj r'
theorem Inv.tuple_inj(I:Inv X pins σ H s)(h:SqT X.K H a xs)(h':SqT X.K H a ys):xs=ys:=by
 obtain⟨its,r,⟨o,e,_,n,d⟩,_⟩:=I.tuple h
 obtain⟨its',r',⟨o',e',_,n',d'⟩,_⟩:=I.tuple h'
 rw[e] at e';cases e'
 rw[d] at d'
 injection d' with d1 _
 have:its=its':=by simpa using congrArg Array.toList d1
 subst this
 exact r.inj r'
end
noncomputable abbrev Cx.wish (X:Cx) (E:Value ->Shared ->Prop):Cx:={X with xe:=E}
noncomputable abbrev Cx.nox (X:Cx):Cx:=X.wish fun _ _=>False
theorem Cx.Ok.wish{X:Cx}(ok:X.Ok)(E:Value ->Shared ->Prop):(X.wish E).Ok:=
 ⟨ok.mod,ok.kind,ok.glob,ok.blt,ok.above,ok.inj,ok.has,ok.cab,ok.hd,ok.frames,ok.stk,ok.exf,ok.bs,ok.bsz,ok.noex,ok.exfs,ok.funs,ok.frf⟩
theorem Cx.Ok.unwish{X:Cx}{E:Value ->Shared ->Prop}(ok:(X.wish E).Ok):X.Ok:=
 ⟨ok.mod,ok.kind,ok.glob,ok.blt,ok.above,ok.inj,ok.has,ok.cab,ok.hd,ok.frames,ok.stk,ok.exf,ok.bs,ok.bsz,ok.noex,ok.exfs,ok.funs,ok.frf⟩
section
variable{X:Cx}{pins:List (Addr×Obj)}{σ:St}{H:Hp}{s:Shared}{E:Value ->Shared ->Prop}
theorem Inv.wish(I:Inv X pins σ H s)(E:Value ->Shared ->Prop):Inv (X.wish E) pins σ H s:=⟨I.ok.wish E,I.os,I.bare,I.base,I.loc,I.cell,I.free,I.freeC,I.pin,I.hok,I.len⟩
theorem Inv.unwish(I:Inv (X.wish E) pins σ H s):Inv X pins σ H s:=⟨I.ok.unwish,I.os,I.bare,I.base,I.loc,I.cell,I.free,I.freeC,I.pin,I.hok,I.len⟩
theorem SP.unwish{D:A9r}{f:Flow}{s':Shared}(h:SP (X.wish E) pins D f s'):SP X pins D f s':=by
 cases f with
 |next=>obtain⟨σ',H',I,q⟩:=h;exact⟨σ',H',I.unwish,q⟩
 |brk=>obtain⟨σ',H',I,q⟩:=h;exact⟨σ',H',I.unwish,q⟩
 |cont=>obtain⟨σ',H',I,q⟩:=h;exact⟨σ',H',I.unwish,q⟩
 |ret u=>obtain⟨v,σ',H',I,r,q⟩:=h;exact⟨v,σ',H',I.unwish,r,q⟩
theorem PSs.nox{st:List Stmt}{t:TS}(h:PSs X.nox st t):PSs X st t:=fun pins s σ H D I hw=>
 wpAny_mono (h pins s σ H D (I.wish _) hw) (fun _ _ q=>q.unwish) fun _ _ z=>False.elim z
end
section
variable{X:Cx}{st:Stmt}{rest:List Stmt}{t u:TS}{e:Expr}{te:TE}{pos:Pos}
noncomputable def J1e:TS:=fun D σ H=>D.nx σ H
noncomputable def C6e (t u:TS):TS:=fun D σ H=>t {D with nx:=u D} σ H
theorem C6:PSs X [] J1e:=fun _ _ σ H _ I h=>wpAny_execs_nil ⟨σ,H,I,h⟩
theorem A2(h1:PS X st t)(h2:PSs X rest u):PSs X (st::rest) (C6e t u):=by
 intro pins s σ H D I h
 refine wpAny_execs_cons (thn (h1 pins s σ H {D with nx:=u D} I h) fun f s1 q=>?_)
 cases f with
 | next=>
   obtain⟨σ',H',I',q⟩:=q
   exact h2 pins s1 σ' H' D I' q
 |ret v=>exact q
 |brk=>exact q
 |cont=>exact q
theorem A5(h1:PS X st t):PSs X [st] t:=by
 intro pins s σ H D I h
 refine wpAny_execs_cons (thn (h1 pins s σ H D I h) fun f s1 q=>?_)
 cases f with
 |next=>exact wpAny_execs_nil q
 |ret v=>exact q
 |brk=>exact q
 |cont=>exact q
theorem Inv.quiet{pins:List (Addr×Obj)}{σ:St}{H:Hp}{s:Shared}(I:Inv X pins σ H s):interactive X.env=false:=by simp[interactive,I.ok.kind]
noncomputable def J4p (te:TE):TS:=fun D σ H=>te σ H fun _ H1=>D.nx σ H1
theorem U5(he:PE X e te)(hs:swapsWith e none pos.line X.env=pure false:=by rfl):PS X (.Expr e pos) (J4p te):=by
 intro pins s σ H D I h
 exact wpAny_Expr_any (thn (he pins s σ H _ I h) fun v s1 ⟨x,H1,I1,r1,q1⟩=>⟨σ,H1,I1,q1⟩) I.quiet hs
noncomputable def J4a (te:TE):TS:=fun D σ H=>te σ H D.rt
theorem A8(he:PE X e te):PS X (.Return (some e) pos) (J4a te):=by
 intro pins s σ H D I h
 exact wpAny_Return_some (thn (he pins s σ H _ I h) fun v s1 ⟨x,H1,I1,r1,q1⟩=>⟨x,σ,H1,I1,r1,q1⟩)
noncomputable def J8g (c:TT) (t u:TS):TS:=fun D σ H=>c σ H fun b H1=>if b=true then t D σ H1 else u D σ H1
theorem D7{c:Expr}{a b:List Stmt}{tc:TT}(hc:PT X c tc)(ha:PSs X a t)(hb:PSs X b u):PS X (.If c a b pos) (J8g tc t u):=by
 intro pins s σ H D I h
 refine wpAny_If (thn (hc pins s σ H _ I h) fun d s1 ⟨H1,I1,q1⟩=>?_)
 cases d with
 |true=>exact ha pins s1 σ H1 D I1 q1
 |false=>exact hb pins s1 σ H1 D I1 q1
end
noncomputable abbrev TG:=V ->St ->Hp ->(St ->Hp ->Prop) ->Prop
noncomputable def PG (X:Cx) (target:Expr) (t:TG):Prop:=
 ∀ (pins:List (Addr×Obj)) (s:Shared) (σ:St) (H:Hp) (v:V) (u:Value) (Q:St ->Hp ->Prop),Inv X pins σ H s ->U4 v u ->t v σ H Q ->
   wpAny (model X.prog X.w) X.A (assign target X.env u) (fun _ s'=>∃σ' H',Inv X pins σ' H' s'/\Q σ' H') X.xe s
noncomputable abbrev TIp:=V ->V ->Hp ->VK ->Prop
noncomputable def PIp (X:Cx) (op:Operator) (t:TIp):Prop:=
 ∀ (pins:List (Addr×Obj)) (s:Shared) (σ:St) (H:Hp) (x y:V) (v u:Value) (Q:VK),Inv X pins σ H s ->U4 x v ->U4 y u ->t x y H Q ->
   wpAny (model X.prog X.w) X.A (inplaceOp op v u) (EP X pins σ Q) X.xe s
section
variable{X:Cx}{pos:Pos}
noncomputable def B1q (i:Nat):TG:=fun v σ H Q=>Q (σ.set i (some v)) H
theorem A1c{i:Nat}{x:Str}(hN:X.N.Nodup)(hi:X.N[i]?=some x)(hx:Loc X.env.scope x)(hf:X.fn x=true\/X.env.scope.names.lookup x=some .local:=by first|exact .inl rfl|exact .inr rfl|assumption):PG X (.Name x pos) (B1q i):=by
 intro pins s σ H v u Q I r h
 exact wpAny_assign_Name (A2r I hN hi hx r (fun s' I'=>⟨_,H,I',h⟩) hf)
noncomputable def D0j (te:TE) (g:TG):TS:=fun D σ H=>te σ H fun x H1=>g x σ H1 D.nx
theorem D3{i:Nat}{x:Str}{e:Expr}{te:TE}{pos':Pos}(hN:X.N.Nodup)(hi:X.N[i]?=some x)(hx:Loc X.env.scope x)(he:PE X e te)(hs:swapsWith e (some (.Name x pos')) pos.line X.env=pure false:=by rfl)(hf:X.fn x=true\/X.env.scope.names.lookup x=some .local:=by first|exact .inl rfl|exact .inr rfl|assumption):
   PS X (.Assign [.Name x pos'] e pos) (D0j te (B1q i)):=by
 intro pins s σ H D I h
 refine wpAny_Assign_Name (thn (he pins s σ H _ I h) fun v s1 hh_=>?_) hs
 obtain⟨y,H1,I1,r1,q1⟩:=hh_
 exact A2r I1 hN hi hx r1 (fun s2 I2=>⟨_,H1,I2,q1⟩) hf
noncomputable def J7u (i:Nat) (te:TE) (ti:TIp):TS:=fun D σ H=>∃x,σ[i]?=some (some x)/\te σ H fun y H1=>ti x y H1 fun z H2=>D.nx (σ.set i (some z)) H2
theorem G5f{i:Nat}{x:Str}{e:Expr}{te:TE}{op:Operator}{ti:TIp}{pos':Pos}(hN:X.N.Nodup)(hi:X.N[i]?=some x)(hx:Loc X.env.scope x)(he:PE X e te)(ho:PIp X op ti)(hf:X.fn x=true\/X.env.scope.names.lookup x=some .local:=by first|exact .inl rfl|exact .inr rfl|assumption):
   PS X (.AugAssign (.Name x pos') op e pos) (J7u i te ti):=by
 intro pins s σ H D I h
 obtain⟨v,e1,h⟩:=h
 obtain⟨m,hn,hl⟩:=I.loc
 have vis:Vis X.env.scope x:=by rcases hx with k|k;exact .inl k;exact .inr (.inl k)
 obtain⟨u,r,l⟩:=hl i x v hi e1 vis
 refine wpAny_AugAssign_Name ?_
 have go:wpAny (model X.prog X.w) X.A (eval e X.env) (fun w s₂=>wpAny (model X.prog X.w) X.A (inplaceOp op u w) (fun r s₃=>wpAny (model X.prog X.w) X.A (storeName X.env x r) (fun _=>SP X pins D .next) X.xe s₃) X.xe s₂) X.xe s:=by
   refine thn (he pins s σ H _ I h) fun w s1 hh_=>?_
   obtain⟨y,H1,I1,r1,q1⟩:=hh_
   refine thn (ho pins s1 σ H1 v y u w _ I1 r r1 q1) fun z s2 hh_=>?_
   obtain⟨zv,H2,I2,r2,q2⟩:=hh_
   exact A2r I2 hN hi hx r2 (fun s3 I3=>⟨_,H2,I3,q2⟩) hf
 rcases l with⟨hk,hm⟩|⟨hk,c,hc,hcell⟩
 . exact wpAny_loadName_local I.ok.kind hk hn hm go
 rcases hk with hk|hk
 . exact wpAny_loadName_cell I.ok.kind hk hc hcell go
 rcases hx with k|k
 . have:X.env.scope.names.lookup x=some .free:=hk
   rw[k] at this;cases this
 have:X.env.scope.names.lookup x=some .free:=hk
 rw[k] at this;cases this
noncomputable def ipI (f:Int ->Int ->Int):TIp:=fun x y H Q=>∃i j,x= .int i/\y= .int j/\Q (.int (f i j)) H
theorem G7t:PIp X .Add (ipI fun i j=>i+j):=by
 intro pins s σ H x y v u Q I r1 r2 h
 obtain⟨i,j,e1,e2,q⟩:=h
 subst e1;subst e2
 obtain⟨t,rfl⟩:=r1
 obtain⟨t',rfl⟩:=r2
 exact iadd_int ⟨.int _,H,I.tok _,⟨_,rfl⟩,q⟩
end
section
variable{X:Cx}{pos:Pos}
noncomputable def D2k (c:TT) (tb:TS):TS:=fun D σ H=>∃W:Nat ->St ->Hp ->Prop,(∃m,W m σ H)/\∀m σ H,W m σ H ->
 c σ H fun b H1=>if b=true then∃N:St ->Hp ->Prop,(∀σ' H',N σ' H' ->∃m',m'<m/\W m' σ' H')/\tb {D with nx:=N,ct:=N,bk:=D.nx} σ H1 else D.nx σ H1
theorem B2w{c:Expr}{body:List Stmt}{tc:TT}{tb:TS}(hp:PassesOwn (model X.prog X.w) X.A X.env X.xe)(hc:PT X c tc)(hb:PSs X body tb):PS X (.While c body [] pos) (D2k tc tb):=by
 intro pins s σ H D I h
 obtain⟨W,⟨m0,w0⟩,turn⟩:=h
 refine wpAny_While (codeAny_whileLoop (fun n s'=>∃σ' H',Inv X pins σ' H' s'/\W n σ' H') ?_ m0 ⟨σ,H,I,w0⟩)
 rintro n s1 ⟨σ1,H1,I1,w1⟩
 refine wpAny_passesOwn hp (thn (hc pins s1 σ1 H1 _ I1 (turn n σ1 H1 w1)) fun b s2 ⟨H2,I2,q2⟩=>?_)
 cases b with
 | true=>
   obtain⟨N,hN,q2⟩:=q2
   rw[if_pos rfl]
   refine wpAny_passesOwn hp (thn (hb pins s2 σ1 H2 _ I2 q2) fun f s3 q3=>?_)
   cases f with
   | next=>
     obtain⟨σ3,H3,I3,n3⟩:=q3
     obtain⟨m',hm,w3⟩:=hN σ3 H3 n3
     exact⟨m',hm,σ3,H3,I3,w3⟩
   | cont=>
     obtain⟨σ3,H3,I3,n3⟩:=q3
     obtain⟨m',hm,w3⟩:=hN σ3 H3 n3
     exact⟨m',hm,σ3,H3,I3,w3⟩
   |brk=>exact q3
   |ret v=>exact q3
 | false=>
   rw[if_neg Bool.false_ne_true]
   exact wpAny_execs_nil ⟨σ1,H2,I2,q2⟩
end
structure It where
 go:Nat ->Hp ->Prop
 yld:Nat ->Hp ->V ->Hp ->Prop
 stop:Nat ->Hp ->Prop
noncomputable def A2y (X:Cx) (pins:List (Addr×Obj)) (H:Hp) (b:Addr):Prop:=
 H b=none/\b≠X.env.locals/\b ∉ X.fs/\(b∈X.ex\/X.s₀.heap.objs.size<=b)/\(∀x c,X.env.cells.lookup x=some c ->c≠b)/\∀p∈X.pn++pins,p.1≠b
theorem Inv.fpOk{X:Cx}{pins:List (Addr×Obj)}{σ:St}{H H':Hp}{s:Shared}{b:Addr}(I:Inv X pins σ H s)(hb:s.heap.objs.size<=b)(hn:H' b=none):A2y X pins H' b:=by
 refine⟨hn,Nat.ne_of_gt (Nat.lt_of_lt_of_le I.lt hb),I.nofs hb,.inr (Nat.le_trans I.sz hb),fun x c e z=>?_,fun p hp z=>?_⟩
 . obtain⟨v,q⟩:=I.cell x c e
   exact absurd (Nat.lt_of_lt_of_le q.lt (by rw[z];exact hb)) (Nat.lt_irrefl _)
 exact absurd (Nat.lt_of_lt_of_le (Heap.lt_size (I.pin p hp).1) (by rw[z];exact hb)) (Nat.lt_irrefl _)
structure G3c(P:Program)(w:World)(K:PySem.W.Frag)(tg:Expr)(J:It)(fp:List Addr)(it:Addr)(tn:Nat ->Heap ->Prop):Prop where
 mem:it∈fp
 obj:∀i h,tn i h ->∀b∈fp,∃o,h.get? b=some o/\∀v,o.data≠ .cell v
 keep:∀i h h',tn i h ->(∀b∈fp,∀o,h.get? b=some o ->h'.get? b=some o) ->tn i h'
 item:∀(X:Cx),X.prog=P ->X.w=w ->X.K=K ->X.calm=true ->∀(i:Nat) (pins:List (Addr×Obj)) (s:Shared) (σ:St) (H:Hp) (E:Value ->Shared ->Prop),Inv X pins σ H s ->(∀b∈fp,A2y X pins H b) ->tn i s.heap ->J.go i H ->
   wpAny (model P w) X.A (pyNext (.ref it)) (fun r s1=>∃u,r=some u/\
     wpAny (model P w) X.A (letOwnedTupleGo tg (.ref it) u) (fun _ s2=>∃x H',Inv X pins σ H' s2/\U4 x u/\J.yld i H x H'/\tn (i+1) s2.heap/\∀b∈fp,H' b=none) E s1) E s
 done:∀(X:Cx),X.prog=P ->X.w=w ->X.K=K ->X.calm=true ->∀(i:Nat) (pins:List (Addr×Obj)) (s:Shared) (σ:St) (H:Hp) (E:Value ->Shared ->Prop),Inv X pins σ H s ->(∀b∈fp,A2y X pins H b) ->tn i s.heap ->J.stop i H ->
   wpAny (model P w) X.A (pyNext (.ref it)) (fun r s1=>r=none/\Inv X pins σ H s1) E s
 self:∀(A:Around) (i:Nat) (s:Shared) (Q:Value ->Shared ->Prop) (E:Value ->Shared ->Prop),tn i s.heap ->Q (.ref it) s ->wpAny (model P w) A (pyIter (.ref it)) Q E s
noncomputable abbrev TI:=St ->Hp ->(It ->Hp ->Prop) ->Prop
noncomputable def PIE (X:Cx) (pins:List (Addr×Obj)) (σ:St) (tg:Expr) (R:It ->Hp ->Prop) (itv:Value) (s2:Shared):Prop:=
 ∃(it:Addr) (fp:List Addr) (tn:Nat ->Heap ->Prop) (J:It) (H':Hp),itv= .ref it/\Inv X pins σ H' s2/\G3c X.prog X.w X.K tg J fp it tn/\tn 0 s2.heap/\(∀b∈fp,A2y X pins H' b)/\R J H'
noncomputable def PI (X:Cx) (tg iter:Expr) (wi:TI):Prop:=
 ∀ (pins:List (Addr×Obj)) (s:Shared) (σ:St) (H:Hp) (R:It ->Hp ->Prop),Inv X pins σ H s ->wi σ H R ->
   wpAny (model X.prog X.w) X.A (eval iter X.env) (fun v s1=>wpAny (model X.prog X.w) X.A (pyIter v) (PIE X pins σ tg R) X.xe s1) X.xe s
theorem D3q{M:Model}{A:Around}{E:Value ->Shared ->Prop}{s:Shared}{tg:Expr}{it:Addr}{u:Value}{o:Obj}{n:String}{vs:Array Value}{Q:Unit ->Shared ->Prop}(ho:s.heap.get? it=some o)(hc:o.cls= .type n)(hd:o.data= .fields vs)
   (hn: ["enumerate","zip","dict_itemiterator","dict_reverseitemiterator","odict_iterator","itertools.zip_longest","itertools.pairwise"].contains n=false) (hQ:Q () s):wpAny M A (letOwnedTupleGo tg (.ref it) u) Q E s:=by
 unfold letOwnedTupleGo
 cases tg <;>first
   |exact wpAny_pure hQ
   |(cases u<;>first
       |exact wpAny_pure hQ
       | (refine wpAny_bind (wpAny_load ho ?_)
          rw[hc,hd]
          show wpAny M A (if(["enumerate","zip","dict_itemiterator","dict_reverseitemiterator","odict_iterator","itertools.zip_longest","itertools.pairwise"].contains n&&vs[0]?==some (rawInt _))=true then _ else _) Q E s
          rw[if_neg (by intro h;rw[hn,Bool.false_and] at h;cases h)]
          exact wpAny_pure hQ))
noncomputable def Itl (K:PySem.W.Frag) (a:Addr):It:=
 ⟨fun i H=>∃xs x,SqL K H a xs/\xs[i]?=some x,fun i H x H'=>H'=H/\∀xs,SqL K H a xs ->xs[i]?=some x,fun i H=>∃xs,SqL K H a xs/\xs.length<=i⟩
noncomputable def Itt (K:PySem.W.Frag) (a:Addr):It:=
 ⟨fun i H=>∃xs x,SqT K H a xs/\xs[i]?=some x,fun i H x H'=>H'=H/\∀xs,SqT K H a xs ->xs[i]?=some x,fun i H=>∃xs,SqT K H a xs/\xs.length<=i⟩
noncomputable def Itr (lo:Int) (n:Nat):It:=⟨fun i _=>i<n,fun i H x H'=>H'=H/\x= .int (lo+i),fun i _=>n<=i⟩
theorem C7c{P:Program}{w:World}{K:PySem.W.Frag}{tg:Expr}(a it:Addr):G3c P w K tg (Itl K a) [it] it (fun i h=>h.IsListIter it a i) where
 mem:=by simp
 obj:=fun i h st b hb=>by
   have e:b=it:=by simpa using hb
   subst e
   obtain⟨o,e,c,d⟩:=st
   exact⟨o,e,fun v z=>by rw[d] at z;cases z⟩
 keep:=fun i h h' st k=>st.at fun o e=>k it (by simp) o e
 item:=by
   intro X hP hw hK hc i pins s σ H E I hf st hg
   subst hP hw hK
   obtain⟨xs,x,hq,hx⟩:=hg
   obtain⟨its,rv,p,hz⟩:=I.list hq
   obtain⟨u,hu,ru⟩:=rv.get hx
   obtain⟨f0,f1,f2,f3,f4,f5⟩:=hf it (by simp)
   refine wpAny_pyNext_list_item st p.isList (x:=u) (by simpa using hu) fun h' st' sb=>?_
   have I1:Inv X pins σ H {s with heap:=h'}:=I.turned (t':=s.toks) (fun b o hb e=>(sb.2 b hb).trans e) f0 f1 f3 f4 f5
   obtain⟨o,e,c,d⟩:=id st'
   exact⟨u,rfl,D3q (s:={s with heap:=h'}) e c d (by decide) ⟨x,H,I1,ru,⟨rfl,fun ys hy=>by rw[I.list_inj hy hq];exact hx⟩,st',fun b hb=>(hf b hb).1⟩⟩
 done:=by
   intro X hP hw hK hc i pins s σ H E I hf st hg
   subst hP hw hK
   obtain⟨xs,hq,hx⟩:=hg
   obtain⟨its,rv,p,hz⟩:=I.list hq
   obtain⟨f0,f1,f2,f3,f4,f5⟩:=hf it (by simp)
   have hl:=rv.length
   exact wpAny_pyNext_list_end (I.ok.hd hc) st p.isList (by simp;omega) fun h' eb=>⟨rfl,I.turned (t':=s.toks) (fun b o hb e=>eb b o hb e) f0 f1 f3 f4 f5⟩
 self:=fun _ _ _ _ _ st h=>wpAny_pyIter_listiter st h
theorem C2g{P:Program}{w:World}{K:PySem.W.Frag}{tg:Expr}(a it:Addr):G3c P w K tg (Itt K a) [it] it (fun i h=>h.IsTupleIter it a i) where
 mem:=by simp
 obj:=fun i h st b hb=>by
   have e:b=it:=by simpa using hb
   subst e
   obtain⟨o,e,c,d⟩:=st
   exact⟨o,e,fun v z=>by rw[d] at z;cases z⟩
 keep:=fun i h h' st k=>st.at fun o e=>k it (by simp) o e
 item:=by
   intro X hP hw hK hc i pins s σ H E I hf st hg
   subst hP hw hK
   obtain⟨xs,x,hq,hx⟩:=hg
   obtain⟨its,rv,p,hz⟩:=I.tuple hq
   obtain⟨u,hu,ru⟩:=rv.get hx
   obtain⟨f0,f1,f2,f3,f4,f5⟩:=hf it (by simp)
   refine wpAny_pyNext_tuple_item st (show s.heap.IsTuple a its.toArray from p) (x:=u) (by simpa using hu) fun h' st' sb=>?_
   have I1:Inv X pins σ H {s with heap:=h'}:=I.turned (t':=s.toks) (fun b o hb e=>(sb.2 b hb).trans e) f0 f1 f3 f4 f5
   obtain⟨o,e,c,d⟩:=id st'
   exact⟨u,rfl,D3q (s:={s with heap:=h'}) e c d (by decide) ⟨x,H,I1,ru,⟨rfl,fun ys hy=>by rw[I.tuple_inj hy hq];exact hx⟩,st',fun b hb=>(hf b hb).1⟩⟩
 done:=by
   intro X hP hw hK hc i pins s σ H E I hf st hg
   subst hP hw hK
   obtain⟨xs,hq,hx⟩:=hg
   obtain⟨its,rv,p,hz⟩:=I.tuple hq
   obtain⟨f0,f1,f2,f3,f4,f5⟩:=hf it (by simp)
   have hl:=rv.length
   exact wpAny_pyNext_tuple_end (I.ok.hd hc) st (show s.heap.IsTuple a its.toArray from p) (by simp;omega) fun h' eb=>⟨rfl,I.turned (t':=s.toks) (fun b o hb e=>eb b o hb e) f0 f1 f3 f4 f5⟩
 self:=fun _ _ _ _ _ st h=>wpAny_pyIter_tupleiter st h
theorem C0e{P:Program}{w:World}{K:PySem.W.Frag}{tg:Expr}(it:Addr)(lo:Int)(n:Nat):G3c P w K tg (Itr lo n) [it] it (fun i h=>IsRangeIter h it (lo+(i:Nat)*1) ((n:Int)- (i:Nat)) 1) where
 mem:=by simp
 obj :=fun i h st b hb=>by
   have e:b=it:=by simpa using hb
   subst e
   exact⟨_,st,fun v z=>by
     have z':Data.fields _=Data.cell v:=z
     cases z'⟩
 keep:=fun i h h' st k=>k it (by simp) _ st
 item:=by
   intro X hP hw hK hc i pins s σ H E I hf st hg
   subst hP hw hK
   obtain⟨f0,f1,f2,f3,f4,f5⟩:=hf it (by simp)
   have W:=Walks.range (prog:=X.prog) (w:=X.w) (I.ok.hd hc) it lo 1 n
   refine W.item i s _ _ hg st fun v h' tk hv st' kk=>?_
   obtain⟨t,rfl⟩:=hv
   have I1:Inv X pins σ H {s with heap:=h',toks:=tk}:=I.turned (fun b o hb e=>kk b o (by simpa using hb) e) f0 f1 f3 f4 f5
   refine⟨_,rfl,D3q (s:={s with heap:=h',toks:=tk}) (n:="range_iterator") st' rfl rfl (by decide) ⟨.int (lo+i),H,I1,⟨t,?_⟩,⟨rfl,rfl⟩,st',fun b hb=>(hf b hb).1⟩⟩
   rw[Int.mul_one]
 done:=by
   intro X hP hw hK hc i pins s σ H E I hf st hg
   subst hP hw hK
   obtain⟨f0,f1,f2,f3,f4,f5⟩:=hf it (by simp)
   exact wpAny_pyNext_range_end (I.ok.hd hc) st (by have:n<=i:=hg;omega) fun h' eb=>⟨rfl,I.turned (t':=s.toks) (fun b o hb e=>eb b o hb e) f0 f1 f3 f4 f5⟩
 self:=fun _ _ _ _ _ st h=>wpAny_pyIter_rangeiter st h
section
variable{X:Cx}{tg:Expr}
noncomputable def J3z (K:PySem.W.Frag) (tl:TE):TI:=fun σ H R=>tl σ H fun x H1=>∃a,x= .ref a/\(∃xs,SqL K H1 a xs)/\R (Itl K a) H1
noncomputable def J3f (K:PySem.W.Frag) (tl:TE):TI:=fun σ H R=>tl σ H fun x H1=>∃a,x= .ref a/\(∃xs,SqT K H1 a xs)/\R (Itt K a) H1
theorem A2g{l:Expr}{tl:TE}(hl:PE X l tl):PI X tg l (J3z X.K tl):=by
 intro pins s σ H R I h
 refine thn (hl pins s σ H _ I h) fun v s1 hh_=>?_
 obtain⟨x,H1,I1,r1,q1⟩:=hh_
 obtain⟨a,e,⟨xs,hq⟩,q⟩:=q1
 subst e
 cases r1
 obtain⟨its,rv,p,hz⟩:=I1.list hq
 refine wpAny_pyIter_list p.isList ?_
 refine⟨s1.heap.objs.size,[s1.heap.objs.size],_,_,H1,rfl,I1.kept (t':=s1.toks) fun b o e=>Heap.get?_push_of_some _ e,C7c a _,⟨_,Heap.get?_push_size _ rfl,rfl,rfl⟩,fun b hb=>?_,q⟩
 have e:b=s1.heap.objs.size:=by simpa using hb
 subst e
 exact I1.fpOk (Nat.le_refl _) (I1.hok.fresh (Nat.le_refl _))
theorem G4f{l:Expr}{tl:TE}(hl:PE X l tl):PI X tg l (J3f X.K tl):=by
 intro pins s σ H R I h
 refine thn (hl pins s σ H _ I h) fun v s1 hh_=>?_
 obtain⟨x,H1,I1,r1,q1⟩:=hh_
 obtain⟨a,e,⟨xs,hq⟩,q⟩:=q1
 subst e
 cases r1
 obtain⟨its,rv,p,hz⟩:=I1.tuple hq
 refine wpAny_pyIter_tuple (show s1.heap.IsTuple a its.toArray from p) ?_
 refine⟨s1.heap.objs.size,[s1.heap.objs.size],_,_,H1,rfl,I1.kept (t':=s1.toks) fun b o e=>Heap.get?_push_of_some _ e,C2g a _,⟨_,Heap.get?_push_size _ rfl,rfl,rfl⟩,fun b hb=>?_,q⟩
 have e:b=s1.heap.objs.size:=by simpa using hb
 subst e
 exact I1.fpOk (Nat.le_refl _) (I1.hok.fresh (Nat.le_refl _))
theorem D3t{pins:List (Addr×Obj)}{σ:St}{H:Hp}{s:Shared}{R:It ->Hp ->Prop}{E:Value ->Shared ->Prop}{lo hi:Int}{t u v:Tok}{tk:Nat}(I:Inv X pins σ H s)(h1: -(2^62)<=lo)(h2:lo<2^62)(h3: -(2^62)<=hi)(h4:hi<2^62)
   (q:R (Itr lo (hi-lo).toNat) H):wpAny (model X.prog X.w) X.A (pyIter (.ref s.heap.objs.size)) (PIE X pins σ tg R) E {s with heap:=s.heap.push {cls:= .type "range",data:= .fields #[.int lo t,.int hi u,.int 1 v]},toks:=tk}:=by
 refine wpAny_pyIter_range (IsRange.new ..) (small_one h1 h2 h3 h4) ?_
 have I1:Inv X pins σ H {s with heap:=s.heap.push {cls:= .type "range",data:= .fields #[.int lo t,.int hi u,.int 1 v]},toks:=tk}:=I.kept fun b o e=>Heap.get?_push_of_some _ e
 refine⟨(s.heap.push {cls:= .type "range",data:= .fields #[.int lo t,.int hi u,.int 1 v]}).objs.size,[(s.heap.push {cls:= .type "range",data:= .fields #[.int lo t,.int hi u,.int 1 v]}).objs.size],_,_,H,rfl,
   I1.kept (t':=tk) fun b o e=>Heap.get?_push_of_some _ e,C0e _ lo (hi-lo).toNat,?_,fun b hb=>?_,q⟩
 . have e1:lo+((0:Nat):Int)*1=lo:=by simp
   have e2:(((hi-lo).toNat:Nat):Int)- ((0:Nat):Int)=Builtin.Range.rangeSize lo hi 1:=by rw[rangeSize_one];split<;>omega
   show IsRangeIter _ _ (lo+((0:Nat):Int)*1) ((((hi-lo).toNat:Nat):Int)- ((0:Nat):Int)) 1
   rw[e1,e2]
   exact Heap.get?_push_size _ rfl
 have e:b=(s.heap.push {cls:= .type "range",data:= .fields #[.int lo t,.int hi u,.int 1 v]}).objs.size:=by simpa using hb
 subst e
 exact I1.fpOk (Nat.le_refl _) (I1.hok.fresh (Nat.le_refl _))
noncomputable def J1d (ta:TA):TI:=fun σ H R=>ta σ H fun vs H1=>∃j:Int,vs=[.int j]/\ -(2^62)<=j/\j<2^62/\R (Itr 0 j.toNat) H1
theorem C7e{a:Expr}{ta:TA}{p pos:Pos}(hg:Gl X "range")(hm:X.mg "range"=none)(ha:PA X [a] ta)(hs:starEach [a] X.env=[(false,eval a X.env)]:=by rfl):PI X tg (.Call (.Name "range" p) [a] [] pos) (J1d ta):=by
 intro pins s σ H R I h
 refine Call_ (B5w I hg hm boot_range (PyProof.Rows.callWith_type1 (thn (ha pos pins s σ H _ I h) fun us s1 hh_=>?_) hs rfl))
 obtain⟨vs,H1,I1,r1,q1⟩:=hh_
 obtain⟨j,e,q1,q2,q⟩:=q1
 subst e
 cases r1 with
 | cons r rr=>
   cases rr
   obtain⟨t,rfl⟩:=r
   exact call_range_1 (D3t I1 (by omega) (by omega) q1 q2 (by simpa using q))
noncomputable def J7s (wi:TI) (g:TG) (tb:TS):TS:=fun D σ H=>wi σ H fun J H1=>∃W:Nat ->Nat ->St ->Hp ->Prop,(∃m,W 0 m σ H1)/\∀i m σ H,W i m σ H ->
 (J.stop i H/\D.nx σ H)\/(J.go i H/\∃N:St ->Hp ->Prop,(∀σ' H',N σ' H' ->∃m',m'<m/\W (i+1) m' σ' H')/\∀x H',J.yld i H x H' ->g x σ H' fun σ2 H2=>tb {D with nx:=N,ct:=N,bk:=D.nx} σ2 H2)
noncomputable def Y5 (fp:List Addr) (h:Heap):List (Addr×Obj):=fp.filterMap fun b=>(h.get? b).map fun o=>(b,o)
theorem A0b{fp:List Addr}{h:Heap}{b:Addr}{o:Obj}(hb:b∈fp)(e:h.get? b=some o):(b,o)∈Y5 fp h:=List.mem_filterMap.mpr ⟨b,hb,by rw[e];rfl⟩
theorem C6j{fp:List Addr}{h:Heap}{p:Addr×Obj}(hp:p∈Y5 fp h):p.1∈fp/\h.get? p.1=some p.2:=by
 obtain⟨b,hb,e⟩:=List.mem_filterMap.mp hp
 cases q:h.get? b with
 |none=>rw[q] at e;cases e
 | some o=>
   rw[q] at e
   have e':(b,o)=p:=Option.some.inj e
   subst e'
   exact⟨hb,q⟩
theorem Inv.pinned{pins:List (Addr×Obj)}{σ:St}{H:Hp}{s:Shared}{fp:List Addr}(I:Inv X pins σ H s)(hf:∀b∈fp,A2y X pins H b)(ho:∀b∈fp,∃o,s.heap.get? b=some o/\∀v,o.data≠ .cell v):Inv X (pins++Y5 fp s.heap) σ H s:=
 I.pins_of fun p hp=>(List.mem_append.mp hp).elim (fun z=>I.pin p (List.mem_append_right _ z)) fun z=>by
   obtain⟨hb,e⟩:=C6j z
   obtain⟨f0,f1,f2,_⟩:=hf p.1 hb
   obtain⟨o,e',d⟩:=ho p.1 hb
   rw[e] at e';cases e'
   exact⟨e,f0,f1,f2,d⟩
theorem Inv.unpinned{pins pl:List (Addr×Obj)}{σ:St}{H:Hp}{s:Shared}(I:Inv X (pins++pl) σ H s):Inv X pins σ H s:=I.pins_of fun p hp=>I.pin p (List.mem_append_right _ (List.mem_append_left _ hp))
theorem B6v{iter:Expr}{body:List Stmt}{wi:TI}{g:TG}{tb:TS}{pos:Pos}(hp:PassesOwn (model X.prog X.w) X.A X.env X.xe)(hc:X.calm=true)(hi:PI X tg iter wi)(hg:PG X tg g)(hb:PSs X body tb)
   (hs:∀x,foldedSetIterable iter X.env x=pure x:=by intro _;rfl):PS X (.For tg iter body [] pos) (J7s wi g tb):=by
 intro pins s σ H D I h
 refine wpAny_For (thn (hi pins s σ H _ I h) fun v s1 h1=>thn h1 fun itv s2 h2=>?_) hs
 obtain⟨it,fp,tn,J,H2,e,I2,T,st2,f2,W,⟨m0,w0⟩,turn⟩:=h2
 subst e
 have stat:∀{H':Hp},(∀b∈fp,H' b=none) ->∀b∈fp,A2y X pins H' b:=fun hn b hb=>⟨hn b hb,(f2 b hb).2⟩
 refine codeAny_forLoop_any (fun n s'=>∃i σ' H',Inv X pins σ' H' s'/\tn i s'.heap/\(∀b∈fp,H' b=none)/\W i n σ' H') ?_ m0 ⟨0,σ,H2,I2,st2,fun b hb=>(f2 b hb).1,w0⟩
 rintro n s3 ⟨i,σ3,H3,I3,st3,fr3,w3⟩
 rcases turn i n σ3 H3 w3 with⟨stop,qn⟩|⟨go,N,hN,step⟩
 . refine wpAny_passesOwn hp (thn (T.done X rfl rfl rfl hc i pins s3 σ3 H3 X.xe I3 (stat fr3) st3 stop) fun r s4 ⟨hr,I4⟩=>?_)
   subst hr
   exact wpAny_execs_nil ⟨σ3,H3,I4,qn⟩
 refine wpAny_passesOwn hp (thn (T.item X rfl rfl rfl hc i pins s3 σ3 H3 X.xe I3 (stat fr3) st3 go) fun r s4 ⟨u,hr,h4⟩=>?_)
 subst hr
 refine wpAny_passesOwn hp (thn h4 fun _ s5 hh_=>?_)
 obtain⟨x,H5,I5,r5,y5,st5,fr5⟩:=hh_
 have I5':=I5.pinned (stat fr5) (T.obj _ _ st5)
 refine wpAny_passesOwn hp (thn (hg _ s5 σ3 H5 x u _ I5' r5 (step x H5 y5)) fun _ s6 hh_=>?_)
 obtain⟨σ6,H6,I6,q6⟩:=hh_
 refine wpAny_passesOwn hp (thn (hb _ s6 σ6 H6 _ I6 q6) fun f s7 q7=>?_)
 have again:∀{σ7:St} {H7:Hp},Inv X (pins++Y5 fp s5.heap) σ7 H7 s7 ->N σ7 H7 ->∃m,m<n/\∃i σ' H',Inv X pins σ' H' s7/\tn i s7.heap/\(∀b∈fp,H' b=none)/\W i m σ' H':=fun{σ7 H7} I7 n7=>by
   obtain⟨m',hm,w7⟩:=hN σ7 H7 n7
   refine⟨m',hm,i+1,σ7,H7,I7.unpinned,T.keep _ _ _ st5 fun b hb o e=>(I7.pin (b,o) (List.mem_append_right _ (List.mem_append_right _ (A0b hb e)))).1,fun b hb=>?_,w7⟩
   obtain⟨o,e,d⟩:=T.obj _ _ st5 b hb
   exact(I7.pin (b,o) (List.mem_append_right _ (List.mem_append_right _ (A0b hb e)))).2.1
 cases f with
 |next=>obtain⟨σ7,H7,I7,n7⟩:=q7;exact again I7 n7
 |cont=>obtain⟨σ7,H7,I7,n7⟩:=q7;exact again I7 n7
 |brk=>obtain⟨σ7,H7,I7,q7⟩:=q7;exact⟨σ7,H7,I7.unpinned,q7⟩
 |ret v=>obtain⟨x7,σ7,H7,I7,r7,q7⟩:=q7;exact⟨x7,σ7,H7,I7.unpinned,r7,q7⟩
end
theorem A4x{K:PySem.W.Frag}{a:Addr}{xs:List V}{g:TG}{tb:TS}{D:A9r}{σ:St}{H:Hp}(Pv:Nat ->St ->Hp ->Prop)(h0:Pv 0 σ H)(hl:∀i σ H,i<=xs.length ->Pv i σ H ->SqL K H a xs)
   (hs:∀i x σ H,xs[i]?=some x ->Pv i σ H ->g x σ H fun σ2 H2=>tb {D with nx:=Pv (i+1),ct:=Pv (i+1),bk:=D.nx} σ2 H2) (hd:∀σ H,Pv xs.length σ H ->D.nx σ H):
   ∃ W:Nat ->Nat ->St ->Hp ->Prop,(∃m,W 0 m σ H)/\∀i m σ H,W i m σ H ->
     ((Itl K a).stop i H/\D.nx σ H)\/((Itl K a).go i H/\∃N:St ->Hp ->Prop,(∀σ' H',N σ' H' ->∃m',m'<m/\W (i+1) m' σ' H')/\∀x H',(Itl K a).yld i H x H' ->g x σ H' fun σ2 H2=>tb {D with nx:=N,ct:=N,bk:=D.nx} σ2 H2):=by
 refine⟨fun i m σ H=>m=xs.length-i/\i<=xs.length/\Pv i σ H,⟨xs.length,by simp,Nat.zero_le _,h0⟩,?_⟩
 rintro i m σ H ⟨rfl,hi,p⟩
 have q:=hl i σ H hi p
 by_cases hlt:i<xs.length
 . refine .inr ⟨⟨xs,xs[i],q,by simp[hlt]⟩,Pv (i+1),fun σ' H' p'=>⟨xs.length-(i+1),by omega,rfl,hlt,p'⟩,fun x H' y=>?_⟩
   obtain⟨e,y⟩:=y
   subst e
   exact hs i x σ _ (y xs q) p
 have e:i=xs.length:=by omega
 subst e
 exact .inl ⟨⟨xs,q,Nat.le_refl _⟩,hd σ H p⟩
theorem C8j{lo:Int}{n:Nat}{g:TG}{tb:TS}{D:A9r}{σ:St}{H:Hp}(Pv:Nat ->St ->Hp ->Prop)(h0:Pv 0 σ H)
   (hs:∀i σ H,i<n ->Pv i σ H ->g (.int (lo+i)) σ H fun σ2 H2=>tb {D with nx:=Pv (i+1),ct:=Pv (i+1),bk:=D.nx} σ2 H2) (hd:∀σ H,Pv n σ H ->D.nx σ H):
   ∃ W:Nat ->Nat ->St ->Hp ->Prop,(∃m,W 0 m σ H)/\∀i m σ H,W i m σ H ->
     ((Itr lo n).stop i H/\D.nx σ H)\/((Itr lo n).go i H/\∃N:St ->Hp ->Prop,(∀σ' H',N σ' H' ->∃m',m'<m/\W (i+1) m' σ' H')/\∀x H',(Itr lo n).yld i H x H' ->g x σ H' fun σ2 H2=>tb {D with nx:=N,ct:=N,bk:=D.nx} σ2 H2):=by
 refine⟨fun i m σ H=>m=n-i/\i<=n/\Pv i σ H,⟨n,by simp,Nat.zero_le _,h0⟩,?_⟩
 rintro i m σ H ⟨rfl,hi,p⟩
 by_cases hlt:i<n
 . refine .inr ⟨hlt,Pv (i+1),fun σ' H' p'=>⟨n-(i+1),by omega,rfl,hlt,p'⟩,fun x H' y=>?_⟩
   obtain⟨e,y⟩:=y
   subst e y
   exact hs i σ _ hlt p
 have e:i=n:=by omega
 subst e
 exact .inl ⟨Nat.le_refl _,hd σ H p⟩
theorem B2f{c:TT}{tb:TS}{D:A9r}{σ:St}{H:Hp}(Pv:St ->Hp ->Prop)(μ:St ->Hp ->Nat)(h0:Pv σ H)
   (hs:∀σ H,Pv σ H ->c σ H fun b H1=>if b=true then tb {D with nx:=fun σ' H'=>Pv σ' H'/\μ σ' H'<μ σ H,ct:=fun σ' H'=>Pv σ' H'/\μ σ' H'<μ σ H,bk:=D.nx} σ H1 else D.nx σ H1)
   (mono:∀σ H Q Q',(∀b H1,Q b H1 ->Q' b H1) ->c σ H Q ->c σ H Q'):D2k c tb D σ H:=by
 refine⟨fun m σ H=>m=μ σ H/\Pv σ H,⟨_,rfl,h0⟩,?_⟩
 rintro m σ H ⟨rfl,p⟩
 refine mono σ H _ _ (fun b H1 q=>?_) (hs σ H p)
 cases b with
 |true=>exact⟨_,fun σ' H' ⟨p',l⟩=>⟨_,l,rfl,p'⟩,q⟩
 |false=>exact q
noncomputable abbrev R2:=V ->V ->Hp ->VK ->Prop
noncomputable def OpR (X:Cx) (f:Value ->Value ->Sem Value) (r:R2):Prop:=
 ∀ (pins:List (Addr×Obj)) (s:Shared) (σ:St) (H:Hp) (x y:V) (v u:Value) (Q:VK),Inv X pins σ H s ->U4 x v ->U4 y u ->r x y H Q ->
   wpAny (model X.prog X.w) X.A (f v u) (EP X pins σ Q) X.xe s
noncomputable def UnR (X:Cx) (f:Value ->Sem Value) (r:V ->Hp ->VK ->Prop):Prop:=
 ∀ (pins:List (Addr×Obj)) (s:Shared) (σ:St) (H:Hp) (x:V) (v:Value) (Q:VK),Inv X pins σ H s ->U4 x v ->r x H Q ->
   wpAny (model X.prog X.w) X.A (f v) (EP X pins σ Q) X.xe s
noncomputable def A3z (X:Cx) (f:Value) (r:List V ->Hp ->VK ->Prop):Prop:=
 ∀ (pins:List (Addr×Obj)) (s:Shared) (σ:St) (H:Hp) (xs:List V) (us:List Value) (Q:VK),Inv X pins σ H s ->J0 xs us ->r xs H Q ->
   wpAny (model X.prog X.w) X.A (call f us) (EP X pins σ Q) X.xe s
noncomputable def tOp (r:R2) (ta tb:TE):TE:=fun σ H Q=>ta σ H fun x H1=>tb σ H1 fun y H2=>r x y H2 Q
noncomputable def tUn (r:V ->Hp ->VK ->Prop) (ta:TE):TE:=fun σ H Q=>ta σ H fun x H1=>r x H1 Q
noncomputable def rI (C:Int ->Int ->Prop) (g:Int ->Int ->V):R2:=fun x y H Q=>∃i j,x= .int i/\y= .int j/\C i j/\Q (g i j) H
noncomputable def rI0 (g:Int ->Int ->V):R2:=fun x y H Q=>∃i j,x= .int i/\y= .int j/\Q (g i j) H
noncomputable def rU (g:Int ->V):V ->Hp ->VK ->Prop:=fun x H Q=>∃i,x= .int i/\Q (g i) H
section
variable{X:Cx}{a b c:Expr}{ta tb tc:TE}{pos:Pos}
theorem G5y(ha:PE X a ta)(hb:PE X b tb){pins:List (Addr×Obj)}{s:Shared}{σ:St}{H:Hp}{R:V ->V ->Hp ->Prop}(I:Inv X pins σ H s)
   (h:ta σ H fun x H1=>tb σ H1 fun y H2=>R x y H2) {Q:Value ->Shared ->Prop} {f:Value ->Value ->Sem Value}
   (hf:∀v u s2 x y H2,Inv X pins σ H2 s2 ->U4 x v ->U4 y u ->R x y H2 ->wpAny (model X.prog X.w) X.A (f v u) Q X.xe s2):
   wpAny (model X.prog X.w) X.A (eval a X.env) (fun v s₁=>wpAny (model X.prog X.w) X.A (eval b X.env) (fun u s₂=>wpAny (model X.prog X.w) X.A (f v u) Q X.xe s₂) X.xe s₁) X.xe s:=by
 refine thn (ha pins s σ H _ I h) fun v s1 hh_=>?_
 obtain⟨x,H1,I1,r1,q1⟩:=hh_
 refine thn (hb pins s1 σ H1 _ I1 q1) fun u s2 hh_=>?_
 obtain⟨y,H2,I2,r2,q2⟩:=hh_
 exact hf v u s2 x y H2 I2 r1 r2 q2
theorem D4{op:Operator}{r:R2}(ho:OpR X (binaryOp op) r)(ha:PE X a ta)(hb:PE X b tb):PE X (.BinOp a op b pos) (tOp r ta tb):=by
 intro pins s σ H Q I h
 exact wpAny_BinOp (G5y ha hb I h fun v u s2 x y H2 I2 rx ry q=>ho pins s2 σ H2 x y v u Q I2 rx ry q)
theorem A5w{op:UnaryOp}{r:V ->Hp ->VK ->Prop}(ho:UnR X (unaryOp op) r)(ha:PE X a ta):PE X (.UnaryOp op a pos) (tUn r ta):=by
 intro pins s σ H Q I h
 exact UnaryOp_ (thn (ha pins s σ H _ I h) fun v s1 ⟨x,H1,I1,r1,q1⟩=>ho pins s1 σ H1 x v Q I1 r1 q1)
theorem opI{f:Value ->Value ->Sem Value}{C:Int ->Int ->Prop}{g:Int ->Int ->Int}
   (rule:∀(i j:Int) (t u:Tok) (s:Shared) (Q:Value ->Shared ->Prop) (E:Value ->Shared ->Prop),C i j ->Q (.int (g i j) s.toks) {s with toks:=s.toks+1} ->wpAny (model X.prog X.w) X.A (f (.int i t) (.int j u)) Q E s):
   OpR X f (rI C fun i j=> .int (g i j)):=by
 intro pins s σ H x y v u Q I rx ry h
 obtain⟨i,j,rfl,rfl,hc,q⟩:=h
 obtain⟨t,rfl⟩:=rx
 obtain⟨t',rfl⟩:=ry
 exact rule i j t t' s _ _ hc ⟨.int (g i j),H,I.tok _,⟨_,rfl⟩,q⟩
theorem J2v{f:Value ->Value ->Sem Value}{g:Int ->Int ->Int}
   (rule:∀(i j:Int) (t u:Tok) (s:Shared) (Q:Value ->Shared ->Prop) (E:Value ->Shared ->Prop),Q (.int (g i j) s.toks) {s with toks:=s.toks+1} ->wpAny (model X.prog X.w) X.A (f (.int i t) (.int j u)) Q E s):
   OpR X f (rI0 fun i j=> .int (g i j)):=by
 intro pins s σ H x y v u Q I rx ry h
 obtain⟨i,j,rfl,rfl,q⟩:=h
 obtain⟨t,rfl⟩:=rx
 obtain⟨t',rfl⟩:=ry
 exact rule i j t t' s _ _ ⟨.int (g i j),H,I.tok _,⟨_,rfl⟩,q⟩
theorem D9t{f:Value ->Value ->Sem Value}{g:Int ->Int ->Bool}
   (rule:∀(i j:Int) (t u:Tok) (s:Shared) (Q:Value ->Shared ->Prop) (E:Value ->Shared ->Prop),Q (.bool (g i j)) s ->wpAny (model X.prog X.w) X.A (f (.int i t) (.int j u)) Q E s):
   OpR X f (rI0 fun i j=> .bl (g i j)):=by
 intro pins s σ H x y v u Q I rx ry h
 obtain⟨i,j,rfl,rfl,q⟩:=h
 obtain⟨t,rfl⟩:=rx
 obtain⟨t',rfl⟩:=ry
 exact rule i j t t' s _ _ ⟨.bl (g i j),H,I,rfl,q⟩
noncomputable def J6g (i j:Int):Prop:=0<j/\j<1073741824
noncomputable def G5j (i j:Int):Prop:=0<=j/\j<=1000000/\i.natAbs<2^64
noncomputable def B7p (i j:Int):Prop:=(-(2^64)<i/\i<2^64)\/(-(2^64)<j/\j<2^64)
theorem B7p.ok{i j:Int}(h:B7p i j):IntMulOk i j:=by
 rcases h with⟨h1,h2⟩|⟨h1,h2⟩
 . exact .of_left (intBits_le_64 h1 h2)
 exact .of_right (intBits_le_64 h1 h2)
theorem A0w:OpR X (binaryOp .Add) (rI0 fun i j=> .int (i+j)):=J2v fun _ _ _ _ _ _ _ q=>add_int q
theorem A0k:OpR X (binaryOp .Sub) (rI0 fun i j=> .int (i-j)):=J2v fun _ _ _ _ _ _ _ q=>sub_int q
theorem A2q:OpR X (binaryOp .Mod) (rI (fun _ j=>0<j) fun i j=> .int (i % j)):=opI fun i j _ _ _ _ _ hc q=>by
 have h1:(0:Int)<j:=hc
 exact mod_int' (by omega) (by rw[Int.fmod_eq_emod_of_nonneg i (by omega)];exact q)
theorem D1a:OpR X (binaryOp .Pow) (rI G5j fun i j=> .int (i^j.toNat)):=opI fun _ _ _ _ _ _ _ hc q=>pow_int_small hc.1 hc.2.1 hc.2.2 q
theorem unI{f:Value ->Sem Value}{g:Int ->Int}
   (rule:∀(i:Int) (t:Tok) (s:Shared) (Q:Value ->Shared ->Prop) (E:Value ->Shared ->Prop),Q (.int (g i) s.toks) {s with toks:=s.toks+1} ->wpAny (model X.prog X.w) X.A (f (.int i t)) Q E s):
   UnR X f (rU fun i=> .int (g i)):=by
 intro pins s σ H x v Q I rx h
 obtain⟨i,rfl,q⟩:=h
 obtain⟨t,rfl⟩:=rx
 exact rule i t s _ _ ⟨.int (g i),H,I.tok _,⟨_,rfl⟩,q⟩
theorem A2p:UnR X (unaryOp .USub) (rU fun i=> .int (-i)):=unI fun _ _ _ _ _ q=>neg_int q
end
noncomputable def J2d:V ->V ->Bool
 | .non,.non=>true| .non,.int _=>true| .int _,.non=>true| .non,.bl _=>true| .bl _,.non=>true| .non,.str _=>true| .str _,.non=>true
 | .int _,.int _=>true| .bl _,.bl _=>true| .str _,.str _=>true| .byt _,.byt _=>true
 | .int _,.str _=>true| .str _,.int _=>true| .bl _,.str _=>true| .str _,.bl _=>true
 |_,_=>false
noncomputable def rEq:R2:=fun x y H Q=>J2d x y=true/\Q (.bl (decide (x=y))) H
noncomputable def rNe:R2:=fun x y H Q=>J2d x y=true/\Q (.bl (!decide (x=y))) H
theorem C5v{i j:Int}:decide (V.int i=V.int j)=(i==j):=by
 rw[Bool.eq_iff_iff]
 simp
theorem D3x{i j:Bool}:decide (V.bl i=V.bl j)=(i==j):=by
 rw[Bool.eq_iff_iff]
 simp
theorem dec_str{i j:Str}:decide (V.str i=V.str j)=(i==j):=by
 rw[Bool.eq_iff_iff]
 simp
theorem C3t{i j:Array UInt8}:decide (V.byt i=V.byt j)=(i.toList==j.toList):=by
 rw[Bool.eq_iff_iff]
 cases i
 cases j
 simp
section
variable{X:Cx}{a b c:Expr}{ta tb tc:TE}{pos:Pos}
theorem U7{pins:List (Addr×Obj)}{σ:St}{H:Hp}{s:Shared}{Q:VK}{k k':Bool}(I:Inv X pins σ H s)(q:Q (.bl k) H)(e:k=k'):EP X pins σ Q (.bool k') s:=by
 subst e
 exact⟨.bl k,H,I,rfl,q⟩
theorem D9:OpR X (compareOp .Eq) rEq:=by
 intro pins s σ H x y v u Q I rx ry h
 obtain⟨hs,q⟩:=h
 cases x with
 | non=>
   cases rx
   cases y with
   |non=>cases ry;exact PySem.EqNone.eq_none_none (U7 I q (by simp))
   |bl j=>cases ry;exact PySem.EqNone.eq_none_bool (U7 I q (by simp))
   |int j=>obtain⟨t',rfl⟩:=ry;exact PySem.EqNone.eq_none_int (U7 I q (by simp))
   |str j=>obtain⟨t',rfl⟩:=ry;exact PySem.EqNone.eq_none_str (U7 I q (by simp))
   |_=>exact absurd (show false=true from hs) Bool.false_ne_true
 | bl i=>
   cases rx
   cases y with
   |non=>cases ry;exact PySem.EqNone.eq_bool_none (U7 I q (by simp))
   |bl j=>cases ry;exact eq_bool (U7 I q D3x)
   |str j=>obtain⟨t',rfl⟩:=ry;exact PySem.EqMixed.eq_bool_str (U7 I q (by simp))
   |_=>exact absurd (show false=true from hs) Bool.false_ne_true
 | int i=>
   obtain⟨t,rfl⟩:=rx
   cases y with
   |non=>cases ry;exact PySem.EqNone.eq_int_none (U7 I q (by simp))
   |int j=>obtain⟨t',rfl⟩:=ry;exact eq_int (U7 I q C5v)
   |str j=>obtain⟨t',rfl⟩:=ry;exact PySem.EqMixed.eq_int_str (U7 I q (by simp))
   |_=>exact absurd (show false=true from hs) Bool.false_ne_true
 | str i=>
   obtain⟨t,rfl⟩:=rx
   cases y with
   |non=>cases ry;exact PySem.EqNone.eq_str_none (U7 I q (by simp))
   |bl j=>cases ry;exact PySem.EqMixed.eq_str_bool (U7 I q (by simp))
   |int j=>obtain⟨t',rfl⟩:=ry;exact PySem.EqMixed.eq_str_int (U7 I q (by simp))
   |str j=>obtain⟨t',rfl⟩:=ry;exact eq_str (U7 I q dec_str)
   |_=>exact absurd (show false=true from hs) Bool.false_ne_true
 | byt i=>
   obtain⟨t,rfl⟩:=rx
   cases y with
   |byt j=>obtain⟨t',rfl⟩:=ry;exact PySem.W.eq_bytes (U7 I q C3t)
   |_=>exact absurd (show false=true from hs) Bool.false_ne_true
 |_=>cases y<;>exact absurd (show false=true from hs) Bool.false_ne_true
theorem B0a:OpR X (compareOp .NotEq) rNe:=by
 intro pins s σ H x y v u Q I rx ry h
 obtain⟨hs,q⟩:=h
 cases x with
 | non=>
   cases rx
   cases y with
   |non=>cases ry;exact PySem.EqNone.ne_none_none (U7 I q (by simp))
   |bl j=>cases ry;exact PySem.EqNone.ne_none_bool (U7 I q (by simp))
   |int j=>obtain⟨t',rfl⟩:=ry;exact PySem.EqNone.ne_none_int (U7 I q (by simp))
   |str j=>obtain⟨t',rfl⟩:=ry;exact PySem.EqNone.ne_none_str (U7 I q (by simp))
   |_=>exact absurd (show false=true from hs) Bool.false_ne_true
 | bl i=>
   cases rx
   cases y with
   |non=>cases ry;exact PySem.EqNone.ne_bool_none (U7 I q (by simp))
   |bl j=>cases ry;exact ne_bool (U7 I q (congrArg not D3x))
   |str j=>obtain⟨t',rfl⟩:=ry;exact PySem.EqMixed.ne_bool_str (U7 I q (by simp))
   |_=>exact absurd (show false=true from hs) Bool.false_ne_true
 | int i=>
   obtain⟨t,rfl⟩:=rx
   cases y with
   |non=>cases ry;exact PySem.EqNone.ne_int_none (U7 I q (by simp))
   |int j=>obtain⟨t',rfl⟩:=ry;exact ne_int (U7 I q (congrArg not C5v))
   |str j=>obtain⟨t',rfl⟩:=ry;exact PySem.EqMixed.ne_int_str (U7 I q (by simp))
   |_=>exact absurd (show false=true from hs) Bool.false_ne_true
 | str i=>
   obtain⟨t,rfl⟩:=rx
   cases y with
   |non=>cases ry;exact PySem.EqNone.ne_str_none (U7 I q (by simp))
   |bl j=>cases ry;exact PySem.EqMixed.ne_str_bool (U7 I q (by simp))
   |int j=>obtain⟨t',rfl⟩:=ry;exact PySem.EqMixed.ne_str_int (U7 I q (by simp))
   |str j=>obtain⟨t',rfl⟩:=ry;exact ne_str (U7 I q (congrArg not dec_str))
   |_=>exact absurd (show false=true from hs) Bool.false_ne_true
 | byt i=>
   obtain⟨t,rfl⟩:=rx
   cases y with
   |byt j=>obtain⟨t',rfl⟩:=ry;exact PySem.W.ne_bytes (U7 I q (congrArg not C3t))
   |_=>exact absurd (show false=true from hs) Bool.false_ne_true
 |_=>cases y<;>exact absurd (show false=true from hs) Bool.false_ne_true
theorem B8x:OpR X (compareOp .Lt) (rI0 fun i j=> .bl (decide (i<j))):=D9t fun _ _ _ _ _ _ _ q=>lt_int q
theorem D1c:OpR X (compareOp .LtE) (rI0 fun i j=> .bl (decide (i<=j))):=D9t fun _ _ _ _ _ _ _ q=>le_int q
theorem A8c:OpR X (compareOp .Gt) (rI0 fun i j=> .bl (decide (j<i))):=D9t fun _ _ _ _ _ _ _ q=>gt_int q
theorem C4c:OpR X (compareOp .GtE) (rI0 fun i j=> .bl (decide (j<=i))):=D9t fun _ _ _ _ _ _ _ q=>ge_int q
theorem G8t:OpR X (compareOp .Is) (fun x y H Q=>y= .non/\Q (.bl (decide (x= .non))) H):=by
 intro pins s σ H x y v u Q I rx ry h
 obtain⟨rfl,q⟩:=h
 cases ry
 refine is_none_gen (U7 I q ?_)
 cases x<;>first
   |(cases rx;rfl)
   |(obtain⟨t,rfl⟩:=rx;rfl)
theorem C0(b:Expr){op:CmpOp}(h:op≠ .In:=by decide)(h2:op≠ .NotIn:=by decide):behindInMarks op b=false:=by
 have e1:(op==CmpOp.In)=false:=by cases op<;>first|rfl|exact absurd rfl h
 have e2:(op==CmpOp.NotIn)=false:=by cases op<;>first|rfl|exact absurd rfl h2
 cases b<;>simp[behindInMarks,e1,e2]
theorem V2{op:CmpOp}{r:R2}(ho:OpR X (compareOp op) r)(ha:PE X a ta)(hb:PE X b tb)(hm:behindInMarks op b=false):PE X (.Compare a [op] [b] pos) (tOp r ta tb):=by
 intro pins s σ H Q I h
 exact wpAny_Compare1 (G5y ha hb I h fun v u s2 x y H2 I2 rx ry q=>ho pins s2 σ H2 x y v u Q I2 rx ry q) hm
noncomputable def J4s (t:TE):TT:=fun σ H Q=>t σ H fun x H'=>∃k,x= .bl k/\Q k H'
theorem B9{op:CmpOp}{r:R2}(ho:OpR X (compareOp op) r)(ha:PE X a ta)(hb:PE X b tb)(hm:behindInMarks op b=false):PT X (.Compare a [op] [b] pos) (J4s (tOp r ta tb)):=by
 intro pins s σ H Q I h
 refine wpAny_isTrue_Compare1 (thn (ha pins s σ H _ I h) fun v s1 ⟨x,H1,I1,r1,q1⟩=>thn (hb pins s1 σ H1 _ I1 q1) fun u s2 ⟨y,H2,I2,r2,q2⟩=>
   thn (ho pins s2 σ H2 x y v u _ I2 r1 r2 q2) fun c s3 ⟨z,H3,I3,r3,k,e,q3⟩=>?_) hm
 subst e
 cases r3
 exact wpAny_truthy_bool ⟨H3,I3,q3⟩
theorem A6j:(sizeLine:Nat)<2^63:=by rw[sizeLine_eq];decide
theorem V6:OpR X (binaryOp .Add) (fun x y H Q=>∃i j,x= .str i/\y= .str j/\i.length+j.length<=sizeLine/\Q (.str (i++j)) H):=by
 intro pins s σ H x y v u Q I rx ry h
 obtain⟨i,j,rfl,rfl,hz,q⟩:=h
 obtain⟨t,rfl⟩:=rx
 obtain⟨t',rfl⟩:=ry
 exact add_str (fun t' tk=>⟨.str (i++j),H,I.tok _,⟨_,rfl⟩,q⟩) hz
theorem B4v{x:V}{us:List Value}(r:J0 [x] us):∃u,us=[u]/\U4 x u:=by
 cases r with
 |cons r1 r2=>cases r2;exact⟨_,rfl,r1⟩
theorem D3s{x y:V}{us:List Value}(r:J0 [x,y] us):∃u w',us=[u,w']/\U4 x u/\U4 y w':=by
 cases r with
 | cons r1 r2=>
   cases r2 with
   |cons r3 r4=>cases r4;exact⟨_,_,rfl,r1,r3⟩
theorem B8m:A3z X (.builtin "abs") (fun xs H Q=>∃i,xs=[.int i]/\Q (.int (if i<0 then -i else i)) H):=by
 intro pins s σ H xs us Q I r h
 obtain⟨i,rfl,q⟩:=h
 obtain⟨u,rfl,t,rfl⟩:=B4v r
 exact call_abs_int fun u tk=>⟨.int (if i<0 then -i else i),H,I.tok _,⟨_,rfl⟩,q⟩
theorem A5d(hc:X.calm=true):A3z X (.builtin "max") (fun xs H Q=>∃i j,xs=[.int i,.int j]/\Q (.int (if j>i then j else i)) H):=by
 intro pins s σ H xs us Q I r h
 obtain⟨i,j,rfl,q⟩:=h
 obtain⟨u,w',rfl,⟨t,rfl⟩,⟨t',rfl⟩⟩:=D3s r
 refine max_two_ints (I.ok.hd hc) fun h' tk k=>⟨_,H,I.kept k,?_,q⟩
 by_cases hj:j>i
 . rw[if_pos hj,if_pos hj];exact⟨_,rfl⟩
 rw[if_neg hj,if_neg hj];exact⟨_,rfl⟩
theorem B3z(hc:X.calm=true):A3z X (.builtin "min") (fun xs H Q=>∃i j,xs=[.int i,.int j]/\Q (.int (if j<i then j else i)) H):=by
 intro pins s σ H xs us Q I r h
 obtain⟨i,j,rfl,q⟩:=h
 obtain⟨u,w',rfl,⟨t,rfl⟩,⟨t',rfl⟩⟩:=D3s r
 refine min_two_ints (I.ok.hd hc) fun h' tk k=>⟨_,H,I.kept k,?_,q⟩
 by_cases hj:j<i
 . rw[if_pos hj,if_pos hj];exact⟨_,rfl⟩
 rw[if_neg hj,if_neg hj];exact⟨_,rfl⟩
theorem A3v:A3z X (.type "str") (fun xs H Q=>∃i,xs=[.int i]/\i.natAbs.log2<1920/\Q (.str (toString i)) H):=by
 intro pins s σ H xs us Q I r h
 obtain⟨i,rfl,hz,q⟩:=h
 obtain⟨u,rfl,t,rfl⟩:=B4v r
 exact PySem.P.str_of_int hz ⟨.str _,H,I.tok _,⟨_,rfl⟩,q⟩
end
structure C3d(h:Heap)(x dx C:Addr)(mA:Str ->Option Value):Prop where
 obj:h.get? x=some (PySem.W.instObj C dx)
 ns:h.Ns1 dx mA
 ne:dx≠x
theorem A8z{h:Heap}{dx:Addr}{mA:Str ->Option Value}(n:h.Ns1 dx mA):∃od,h.get? dx=some od/\∀name,PySem.W.lookIn name od=some (mA name):=by
 obtain⟨o,es,ep,ho,hd,hk,_,hm⟩:=n
 refine⟨o,ho,fun name=>?_⟩
 have e:=hm name
 unfold nsFind findBy at e
 rw[<-Array.find?_toList] at e
 unfold PySem.W.lookIn
 rw[hd]
 dsimp only
 split
 . rename_i y q
   rw[q] at e
   exact congrArg some e
 rename_i q
 rw[q] at e
 have a:es.toList.any (·.refKey)=false:=by
   rw[List.any_eq_false]
   intro y hy
   obtain⟨z,t,hkey⟩:=hk y (Array.mem_toList_iff.mp hy)
   simp[DictEntry.refKey,hkey]
 have a':¬es.toList.any (·.refKey)=true:=by rw[a];exact Bool.false_ne_true
 rw[if_neg a']
 exact congrArg some e
theorem C3d.look{h:Heap}{x dx C:Addr}{mA:Str ->Option Value}(I:C3d h x dx C mA):∃od,PySem.W.InstAt h x (PySem.W.instObj C dx) C (some od)/\∀name,PySem.W.lookIn name od=some (mA name):=
 let⟨od,ho,hl⟩:=A8z I.ns
 ⟨od,⟨I.obj,rfl,rfl,ho⟩,hl⟩
section
variable{prog:Program}{w:World}{A:Around}{E:Value ->Shared ->Prop}{s:Shared}{K:PySem.W.Frag}{x dx C f:Addr}{mA:Str ->Option Value}{name:Str}{v:Value}
theorem G2y{expr:Bool}{Q:Value ->Shared ->Prop}(X:K.In s.heap)(I:C3d s.heap x dx C mA)(hg:PySem.W.plainGet K C name=true)(hh:PySem.W.hasDictIn K C=true)
   (ha:PySem.W.findIn K (.ref C) name=some none) (hv:mA name=some v) (hv':PySem.W.handedIn v=true) (h:Q v {s with toks:=s.toks+1}):
   wpAny (model prog w) A (getAttr (.ref x) name expr) Q E s:=by
 obtain⟨od,J,hl⟩:=I.look
 exact PySem.W.get_value X J (PySem.W.plainGet_of hg).1 (PySem.W.findObj_own hh ha rfl (by rw[hl,hv])) hv' h
theorem D3u{pl:Sem Bool}{Q:Value×List Value ->Shared ->Prop}(X:K.In s.heap)(I:C3d s.heap x dx C mA)(hg:PySem.W.plainGet K C name=true)
   (hf:PySem.W.findIn K (.ref C) name=some (some (.ref f))) (ht:PySem.W.isFn K (.ref f)=true) (hv:mA name=none) (h:Q (.ref f,[.ref x]) s):
   wpAny (model prog w) A (getMethod (.ref x) name pl) Q E s:=by
 obtain⟨od,J,hl⟩:=I.look
 exact PySem.W.method_fn X J (PySem.W.plainGet_of hg).1 (PySem.W.plainGet_of hg).2 hf (beq_iff_eq.mp ht) (by show(PySem.W.lookIn name od).map (·.isSome)=some false;rw[hl,hv];rfl) h
theorem G1t{ns:List Str}{Q:Unit ->Shared ->Prop}(X:K.In s.heap)(I:C3d s.heap x dx C mA)
   (hs:PySem.W.findIn K (.ref C) "__setattr__"=some (some (.builtin "object.__setattr__"))) (hp:PySem.W.plainOver K C=true) (ht:PySem.W.takerIn K C name=some none) (hh:PySem.W.hasDictIn K C=true)
   (hw:PySem.Within mA ns) (hsz:ns.length<=sizeLine)
   (h:∀h',C3d h' x dx C (fun y=>if y=name then some v else mA y) ->Heap.SameBut dx s.heap h' ->Q () {s with heap:=h',toks:=s.toks+2}):
   wpAny (model prog w) A (setAttr (.ref x) name v) Q E s:=by
 obtain⟨od,J,hl⟩:=I.look
 refine PySem.W.set_plain X J hs (PySem.W.osa_open (s:={s with toks:=s.toks+1}) (r:=none) X J hp ht fun b=>?_)
 obtain⟨cd,hc,hd'⟩:=PySem.W.any_some hh
 have hx:s.heap.get? x=some ⟨.ref C,some dx,.plain, #[]⟩:=I.obj
 refine wpAny_bind (wpAny_pure (wpAny_bind (wpAny_bind (wpAny_loadPart hx (wpAny_bind (PySem.W.Looks.here (s:={s with toks:=s.toks+1}) (PySem.W.looks_clsIn X hc) ?_))))))
 rw[hd']
 refine wpAny_pure (a:=some dx) (wpAny_bind (wpAny_pure (wpAny_bind ?_)))
 refine wpAny_nsSet1 (s:={s with toks:=s.toks+1}) I.ns fun h' hn2 hs2=>?_
 obtain⟨oD,esD,epD,hoD,hdD,hcD⟩:=hn2.count (PySem.Within.cons name v hw)
 refine wpAny_bind (wpAny_lookBehind hoD (by rw[hdD];exact pastItsLine_dict (Nat.le_trans hcD (by rw[List.length_cons];omega))) ?_)
 exact wpAny_pure (h _ ⟨(hs2.2 _ (Ne.symm I.ne)).trans I.obj,hn2,I.ne⟩ hs2)
theorem B9q{R:Result ->Shared ->Prop}{vs:List Value}{kw:List (Str×Value)}(X:K.In s.heap)(hm:PySem.W.makesIn K C=true)
   (hi:PySem.W.findIn K (.ref C) "__init__"=some (some (.ref f))) (hf:PySem.W.typeIn K (.ref f)=some (.type "function"))
   (h:codeAny (model prog w) (A.under (.builtin "type.__call__" ⟨.ref C::vs,kw⟩)) (.call (.ref f) ⟨.ref (s.heap.objs.size+1)::vs,kw⟩) (PySem.W.InitBack (s.heap.objs.size+1) R)
     {s with heap:=(s.heap.push PySem.W.emptyDict).push (PySem.W.instObj C s.heap.objs.size)}):
   codeAny (model prog w) A (.call (.ref C) ⟨vs,kw⟩) R s:=by
 obtain⟨hh,g,d,t,os⟩:=s
 exact PySem.W.make_core (PySem.W.makes_of X hm) (PySem.W.looks_findIn X hi) (fun self=>PySem.W.bind_fn X self hf) (.inl rfl) h
theorem C6s{R:Result ->Shared ->Prop}(X:K.In s.heap)(hm:PySem.W.makesIn K C=true)
   (hi:PySem.W.findIn K (.ref C) "__init__"=some (some (.builtin "object.__init__")))
   (hb:∀self,PySem.W.Looks (model prog w) s.heap (bindSpecial (.builtin "object.__init__") self) (.builtin "object.__init__",[self]))
   (h:codeAny (model prog w) (A.under (.builtin "type.__call__" ⟨[.ref C],[]⟩)) (.call (.builtin "object.__init__") ⟨[.ref (s.heap.objs.size+1)],[]⟩) (PySem.W.InitBack (s.heap.objs.size+1) R)
     {s with heap:=(s.heap.push PySem.W.emptyDict).push (PySem.W.instObj C s.heap.objs.size)}):
   codeAny (model prog w) A (.call (.ref C) ⟨[],[]⟩) R s:=by
 obtain⟨hh,g,d,t,os⟩:=s
 exact PySem.W.make_core (PySem.W.makes_of X hm) (PySem.W.looks_findIn X hi) hb (.inr ⟨rfl,rfl⟩) h
end
noncomputable def V7 (f:Str) (v:V):List (Str×V) ->List (Str×V)
 | []=>[(f,v)]
 |(g,x)::r=>if g=f then(g,v)::r else(g,x)::V7 f v r
theorem G3(f g:Str)(v:V):∀fs:List (Str×V),(V7 f v fs).lookup g=if g=f then some v else fs.lookup g
 | []=>by
   show List.lookup g [(f,v)]=_
   by_cases h:g=f
   . have hb:(g==f)=true:=beq_iff_eq.mpr h
     simp only[List.lookup,hb,if_pos h]
   . have hb:(g==f)=false:=beq_eq_false_iff_ne.mpr h
     simp only[List.lookup,hb,if_neg h]
 | (k, x)::r=>by
   have ih:=G3 f g v r
   rw[show V7 f v ((k,x)::r)=(if k=f then(k,v)::r else(k,x)::V7 f v r) from rfl]
   by_cases hk:k=f
   . rw[if_pos hk]
     by_cases h:g=k
     . have hb:(g==k)=true:=beq_iff_eq.mpr h
       simp only[List.lookup,hb,if_pos (h.trans hk)]
     . have hb:(g==k)=false:=beq_eq_false_iff_ne.mpr h
       simp only[List.lookup,hb,if_neg (fun e:g=f=>h (e.trans hk.symm))]
   . rw[if_neg hk]
     by_cases h:g=k
     . have hb:(g==k)=true:=beq_iff_eq.mpr h
       simp only[List.lookup,hb,if_neg (fun e:g=f=>hk (h.symm.trans e))]
     . have hb:(g==k)=false:=beq_eq_false_iff_ne.mpr h
       simp only[List.lookup,hb]
       exact ih
theorem A8t(f:Str)(v:V):∀fs:List (Str×V),f∈(V7 f v fs).map (·.1)/\∀g,g∈fs.map (·.1) ->g∈(V7 f v fs).map (·.1)
 | []=>⟨by simp[V7],fun g h=>by simp at h⟩
 | (k, x)::r=>by
   obtain⟨i1,i2⟩:=A8t f v r
   rw[show V7 f v ((k,x)::r)=(if k=f then(k,v)::r else(k,x)::V7 f v r) from rfl]
   by_cases hk:k=f
   . rw[if_pos hk]
     subst hk
     exact⟨by simp,fun g h=>by simpa using h⟩
   . rw[if_neg hk]
     refine⟨?_,fun g h=>?_⟩
     . rw[List.map_cons]
       exact List.mem_cons_of_mem _ i1
     . rw[List.map_cons] at h ⊢
       rcases List.mem_cons.mp h with e|e
       . exact List.mem_cons.mpr (.inl e)
       . exact List.mem_cons_of_mem _ (i2 g e)
theorem A1h(f:Str)(v:V):∀fs:List (Str×V),(V7 f v fs).length<=fs.length+1
 | []=>by simp[V7]
 | (k,x)::r=>by
   have ih:=A1h f v r
   rw[show V7 f v ((k,x)::r)=(if k=f then(k,v)::r else(k,x)::V7 f v r) from rfl]
   by_cases hk:k=f
   . rw[if_pos hk,List.length_cons,List.length_cons];omega
   . rw[if_neg hk,List.length_cons,List.length_cons];omega
theorem A4c.some_of{v:V}{o:Option Value}(r:A4c (some v) o):∃u,o=some u/\U4 v u:=by
 cases o with
 |none=>exact(show False from r).elim
 |some u=>exact⟨u,rfl,r⟩
theorem A4c.none_of{o:Option Value}(r:A4c none o):o=none:=by
 cases o with
 |none=>rfl
 |some u=>exact(show False from r).elim
theorem B3q{v:V}{u:Value}(r:U4 v u):PySem.W.handedIn u=true:=by
 cases v with
 |non=>cases(show u=Value.none from r);rfl
 |bl b=>cases(show u=Value.bool b from r);rfl
 |int i=>obtain⟨t,e⟩:=(show∃t,u=Value.int i t from r);cases e;rfl
 |str x=>obtain⟨t,e⟩:=(show∃t,u=Value.str x t from r);cases e;rfl
 |byt b=>obtain⟨t,e⟩:=(show∃t,u=Value.bytes b t from r);cases e;rfl
 |flt b=>obtain⟨t,e⟩:=(show∃t,u=Value.float b t from r);cases e;rfl
 |ref a=>cases(show u=Value.ref a from r);rfl
 |ty n=>cases(show u=Value.type n from r);rfl
section
variable{P:Program}{w:World}{H H':Hp}{h h':Heap}{a C dx:Addr}{fs fs':List (Str×V)}
theorem B0u(hok:HOk P w H h)(e:H a=some (.ins C dx fs)):∃mA,C3d h a dx C mA/\(∀f,A4c (fs.lookup f) (mA f))/\PySem.Within mA (fs.map (·.1))/\fs.length<=1000/\H dx=some (.own a):=by
 obtain⟨d,z,ne,ob,mA,n,r,q⟩:=(show Z9 P w H h a (.ins C dx fs) from hok a _ e)
 exact⟨mA,⟨ob,n,ne⟩,r,q,z,d⟩
end
structure Cls(K:PySem.W.Frag)(C:Addr):Prop where
 pg:PySem.W.plainGet K C Str.empty=true
 hd:PySem.W.hasDictIn K C=true
 po:PySem.W.plainOver K C=true
 sa:PySem.W.findIn K (.ref C) "__setattr__"=some (some (.builtin "object.__setattr__"))
theorem Cls.get{K:PySem.W.Frag}{C:Addr}(c:Cls K C)(f:Str):PySem.W.plainGet K C f=true:=c.pg
noncomputable def Z0 (K:PySem.W.Frag) (C:Addr) (f:Str):Prop:=PySem.W.findIn K (.ref C) f=some none
theorem Z0.taker{K:PySem.W.Frag}{C:Addr}{f:Str}(n:Z0 K C f):PySem.W.takerIn K C f=some none:=by
 unfold PySem.W.takerIn
 rw[show PySem.W.findIn K (.ref C) f=some none from n]
 rfl
structure B3p(K:PySem.W.Frag)(C:Addr)(m:Str)(f:Addr):Prop where
 at_:PySem.W.findIn K (.ref C) m=some (some (.ref f))
 fn:PySem.W.isFn K (.ref f)=true
 kp:PySem.W.keepIn K (.ref f)=true
section
variable{X:Cx}{pins:List (Addr×Obj)}{σ:St}{H:Hp}{s:Shared}{a C dx:Addr}{fs:List (Str×V)}{f:Str}{v:V}{A:Around}{E:Value ->Shared ->Prop}
theorem C2x{b:Bool}{Q:Value ->Shared ->Prop}(I:Inv X pins σ H s)(e:H a=some (.ins C dx fs))(c:Cls X.K C)(n:Z0 X.K C f)(l:fs.lookup f=some v)
   (h:∀u s',Inv X pins σ H s' ->U4 v u ->Q u s'):wpAny (model X.prog X.w) A (getAttr (.ref a) f b) Q E s:=by
 obtain⟨mA,O,r,_,_,_⟩:=B0u I.hok e
 obtain⟨u,hu,ru⟩:=A4c.some_of (v:=v) (o:=mA f) (by rw[<-l];exact r f)
 exact G2y I.kIn O (c.get f) c.hd n hu (B3q ru) (h u _ (I.tok _) ru)
theorem B2b{m:Str}{g:Addr}{pl:Sem Bool}{Q:Value×List Value ->Shared ->Prop}(I:Inv X pins σ H s)(e:H a=some (.ins C dx fs))(c:Cls X.K C)(k:B3p X.K C m g)(l:fs.lookup m=none)
   (h:Q (.ref g,[.ref a]) s):wpAny (model X.prog X.w) A (getMethod (.ref a) m pl) Q E s:=by
 obtain⟨mA,O,r,_,_,_⟩:=B0u I.hok e
 have hn:mA m=none:=A4c.none_of (by rw[<-l];exact r m)
 exact D3u I.kIn O (c.get m) k.at_ k.fn hn h
theorem C0u{y:V}{u:Value}{Q:Unit ->Shared ->Prop}(I:Inv X pins σ H s)(e:H a=some (.ins C dx fs))(c:Cls X.K C)(n:Z0 X.K C f)(hl:fs.length<1000)(ry:U4 y u)
   (h:∀s',Inv X pins σ (upd H a (.ins C dx (V7 f y fs))) s' ->Q () s'):wpAny (model X.prog X.w) A (setAttr (.ref a) f u) Q E s:=by
 obtain⟨mA,O,r,wi,_,ho⟩:=B0u I.hok e
 have hz:(fs.map (·.1)).length<=sizeLine:=by rw[List.length_map,sizeLine_eq];omega
 refine G1t I.kIn O c.sa c.po n.taker c.hd wi hz fun h' O' sb=>h _ ?_
 have hd:∃o,h'.get? dx=some o:=let⟨o,_,_,e',_⟩:=O'.ns;⟨o,e'⟩
 refine I.write (x:=a) (e:=dx) (by rw[e];exact True.intro) (.inr ho) (fun b q hb z=>(sb.2 b hb).trans z) hd ?_
 refine⟨by rw[C9 O.ne];exact ho,?_,O.ne,O'.obj,_,O'.ns,fun g=>?_,fun g hg=>?_⟩
 . have:=A1h f y fs;omega
 . show A4c ((V7 f y fs).lookup g) (if g=f then some u else mA g)
   rw[G3]
   by_cases q:g=f
   . rw[if_pos q,if_pos q];exact ry
   . rw[if_neg q,if_neg q];exact r g
 by_cases q:g=f
 . rw[q];exact(A8t f y fs).1
 refine(A8t f y fs).2 g (wi g fun z=>hg ?_)
 show(if g=f then some u else mA g)=none
 rw[if_neg q];exact z
theorem Inv.made(I:Inv X pins σ H s):Inv X pins σ (upd (upd H s.heap.objs.size (.own (s.heap.objs.size+1))) (s.heap.objs.size+1) (.ins C s.heap.objs.size []))
   {s with heap:=(s.heap.push PySem.W.emptyDict).push (PySem.W.instObj C s.heap.objs.size)}:=by
 have e1:(s.heap.push PySem.W.emptyDict).get? s.heap.objs.size=some PySem.W.emptyDict:=Heap.get?_push_size s.heap rfl
 have e2:((s.heap.push PySem.W.emptyDict).push (PySem.W.instObj C s.heap.objs.size)).get? (s.heap.objs.size+1)=some (PySem.W.instObj C s.heap.objs.size):=by
   have:=Heap.get?_push_size (s.heap.push PySem.W.emptyDict) (o:=PySem.W.instObj C s.heap.objs.size) rfl
   rwa[Heap.size_push] at this
 have e3:(s.heap.push PySem.W.emptyDict).Ns s.heap.objs.size (fun _=>none):=⟨PySem.W.emptyDict, #[],_,e1,rfl,(fun e he=>absurd he (by simp)),fun _=>rfl⟩
 have I1:=I.laid (a:=s.heap.objs.size) (o:= .own (s.heap.objs.size+1)) (h':=s.heap.push PySem.W.emptyDict) (t':=s.toks) (fun b u q=>Heap.get?_push_of_some _ q) (Nat.le_refl _) ⟨_,e1⟩
 refine I1.laid (a:=s.heap.objs.size+1) (o:= .ins C s.heap.objs.size []) (t':=s.toks) (fun b u q=>Heap.get?_push_of_some _ q) (Nat.le_of_eq (Heap.size_push _ _)) ?_
 have ne:s.heap.objs.size≠s.heap.objs.size+1:=Nat.ne_of_lt (Nat.lt_succ_self _)
 refine⟨by rw[C9 ne,A6],Nat.zero_le _,ne,e2,fun _=>none,(Heap.Ns1.of_empty e3).at fun o q=>Heap.get?_push_of_some _ q,fun _=>True.intro,fun y hy=>absurd rfl hy⟩
theorem C5f{prog:Program}{w:World}{env:Env}{e:Expr}{f:Str}{pos:Pos}{s:Shared}{Q:Value ->Shared ->Prop}(hb:attributeBase e f env (eval e env)=eval e env)
   (h:wpAny (model prog w) A (eval e env) (fun o s₁=>wpAny (model prog w) A (getAttr o f true) Q E s₁) E s):wpAny (model prog w) A (eval (.Attribute e f pos) env) Q E s:=
 Attribute_any_ h (by rw[arm_eval_Attribute,hb])
end
noncomputable def J3g (K:PySem.W.Frag) (ta:TE) (f:Str):TE:=fun σ H Q=>ta σ H fun x H1=>∃a C dx fs v,x= .ref a/\H1 a=some (.ins C dx fs)/\Cls K C/\Z0 K C f/\fs.lookup f=some v/\Q v H1
noncomputable def J6f (K:PySem.W.Frag) (ta tv:TE) (f:Str):TS:=fun D σ H=>tv σ H fun y H1=>ta σ H1 fun x H2=>∃a C dx fs,x= .ref a/\H2 a=some (.ins C dx fs)/\Cls K C/\Z0 K C f/\fs.length<1000/\
 D.nx σ (upd H2 a (.ins C dx (V7 f y fs)))
section
variable{X:Cx}{o e value:Expr}{f:Str}{pos pos' tpos:Pos}{ta tv:TE}
theorem D6(he:PE X e ta)(hb:attributeBase e f X.env (eval e X.env)=eval e X.env):PE X (.Attribute e f pos) (J3g X.K ta f):=by
 intro pins s σ H Q I h
 refine C5f hb (thn (he pins s σ H _ I h) fun u s1 hh_=>?_)
 obtain⟨x,H1,I1,rx,a,C,dx,fs,v,ex,ea,c,n,l,q⟩:=hh_
 subst ex
 obtain rfl:u=Value.ref a:=rx
 exact C2x I1 ea c n l fun u' s2 I2 ru=>⟨v,H1,I2,ru,q⟩
theorem Z6(ha:PE X o ta)(hv:PE X value tv)(hs:swapsWith value (some (.Attribute o f pos')) pos.line X.env=pure false):PS X (.Assign [.Attribute o f pos'] value pos) (J6f X.K ta tv f):=by
 intro pins s σ H D I h
 refine plainObj_wpAny_Assign_Attribute (thn (hv pins s σ H _ I h) fun u s1 ⟨y,H1,I1,ry,q⟩=>thn (ha pins s1 σ H1 _ I1 q) fun ov s2 hh_=>?_) hs
 obtain⟨x,H2,I2,rx,a,C,dx,fs,ex,ea,c,n,l,q2⟩:=hh_
 subst ex
 obtain rfl:ov=Value.ref a:=rx
 exact C0u I2 ea c n l ry fun s3 I3=>⟨σ,_,I3,q2⟩
end
section
variable{X:Cx}{pins:List (Addr×Obj)}{σ:St}{H:Hp}{s:Shared}{A:Around}{E:Value ->Shared ->Prop}{Q:Value ->Shared ->Prop}{c:Value}{b:Bool}
inductive A9p(K:PySem.W.Frag)(H:Hp):V ->Value ->Prop where
 |non:A9p K H .non (.type "NoneType")
 |bl (x:Bool):A9p K H (.bl x) (.type "bool")
 |int (i:Int):A9p K H (.int i) (.type "int")
 |str (x:Str):A9p K H (.str x) (.type "str")
 |flt (x:UInt64):A9p K H (.flt x) (.type "float")
 |lst {a:Addr} {xs:List V} (e:H a=some (.lst xs)):A9p K H (.ref a) (.type "list")
 |frz {a:Addr} {o:Obj} {xs:List V} (e:H a=some (.frz o (.lst xs))):A9p K H (.ref a) (.type "list")
 |tup {a:Addr} {xs:List V} (e:H a=some (.tup xs)):A9p K H (.ref a) (.type "tuple")
 |dK {a:Addr} {kvs:List (Key×V)} (e:H a=some (.dK kvs)):A9p K H (.ref a) (.type "dict")
 |dT {a:Addr} {kvs:List (List Key×V)} (e:H a=some (.dT kvs)):A9p K H (.ref a) (.type "dict")
 |ins {a C dx:Addr} {fs:List (Str×V)} (e:H a=some (.ins C dx fs)) (cl:Cls K C) (ha:PySem.W.findIn K (.ref C) "__class__"=some (some (.builtin "object.__class__")))
     (hn:PySem.W.specialIn K (.builtin "object.__class__") "__get__"=some (some (.builtin "getset_descriptor.__get__"))) (htk:PySem.W.takesIn K (.builtin "object.__class__")=some true)
     (hm:PySem.W.mroIn K C (.type "object")=some true):A9p K H (.ref a) (.ref C)
theorem C7g{x:V}{u t:Value}(I:Inv X pins σ H s)(rx:U4 x u)(ty:A9p X.K H x t)(e:PySem.W.kitOne X.K t c=some b)(h:∀tk,Q (.bool b) {s with toks:=tk}):
   wpAny (model X.prog X.w) A (call (.builtin "isinstance") [u,c]) Q E s:=by
 cases ty with
 |non=>cases(show u=Value.none from rx);exact PySem.W.kia_one PySem.W.kitx_none I.kIn True.intro e (fun z=>nomatch z) h
 |bl y=>cases(show u=Value.bool y from rx);exact PySem.W.kia_one PySem.W.kitx_bool I.kIn True.intro e (fun z=>nomatch z) h
 |int i=>obtain⟨t,q⟩:=(show∃t,u=Value.int i t from rx);cases q;exact PySem.W.kia_one PySem.W.kitx_int I.kIn True.intro e (fun z=>nomatch z) h
 |str y=>obtain⟨t,q⟩:=(show∃t,u=Value.str y t from rx);cases q;exact PySem.W.kia_one PySem.W.kitx_str I.kIn True.intro e (fun z=>nomatch z) h
 |flt y=>obtain⟨t,q⟩:=(show∃t,u=Value.float y t from rx);cases q;exact PySem.W.kia_one PySem.W.kitx_float I.kIn True.intro e (fun z=>nomatch z) h
 | @lst a xs ea=>
   cases(show u=Value.ref a from rx)
   obtain⟨_,_,n,_,h1⟩:=(show Z9 X.prog X.w H s.heap a (.lst xs) from I.hok a _ ea)
   exact PySem.W.kia_one PySem.W.kitx_list I.kIn ⟨_,h1,rfl⟩ e (fun z=>nomatch z) h
 | @frz a ob xs ea=>
   cases(show u=Value.ref a from rx)
   obtain⟨_,_,_,n,_,h1⟩:=(show Z9 X.prog X.w H s.heap a (.frz ob (.lst xs)) from I.hok a _ ea)
   exact PySem.W.kia_one PySem.W.kitx_list I.kIn ⟨_,h1,rfl⟩ e (fun z=>nomatch z) h
 | @tup a xs ea=>
   cases(show u=Value.ref a from rx)
   obtain⟨_,_,_,p⟩:=(show Z9 X.prog X.w H s.heap a (.tup xs) from I.hok a _ ea)
   obtain⟨o,h1,h2,_⟩:=p
   exact PySem.W.kia_one PySem.W.kitx_tuple I.kIn ⟨o,h1,h2⟩ e (fun z=>nomatch z) h
 | @dK a kvs ea=>
   cases(show u=Value.ref a from rx)
   obtain⟨_,_,vs,_,p⟩:=(show Z9 X.prog X.w H s.heap a (.dK kvs) from I.hok a _ ea)
   obtain⟨o,es,ep,h1,h2,_⟩:=p
   exact PySem.W.kia_one PySem.W.kitx_dict I.kIn ⟨o,h1,h2.1⟩ e (fun z=>nomatch z) h
 | @dT a kvs ea=>
   cases(show u=Value.ref a from rx)
   obtain⟨_,_,xs,_,o,es,ep,h1,h2,_⟩:=(show Z9 X.prog X.w H s.heap a (.dT kvs) from I.hok a _ ea)
   exact PySem.W.kia_one PySem.W.kitx_dict I.kIn ⟨o,h1,h2.1⟩ e (fun z=>nomatch z) h
 | @ins a C dx fs ea cl ha hn htk hm=>
   cases(show u=Value.ref a from rx)
   obtain⟨mA,O,_⟩:=B0u I.hok ea
   obtain⟨od,J,_⟩:=O.look
   exact PySem.W.kia_one (PySem.W.kitx_own (cl.get _) cl.hd ha hn htk hm) I.kIn J e (fun z=>nomatch z) h
end
structure Y9(k:Nat)(A:Around):Prop where
 hd:A.handled=none
 dp:A.depth+3*k+5<recursionLimit
 un:A.units+16*k+200<cLine
theorem Y9.mono{j k:Nat}{A:Around}(r:Y9 k A)(h:j<=k):Y9 j A:=⟨r.hd,by have:=r.dp;omega,by have:=r.un;omega⟩
theorem Y9.deeper{k:Nat}{A:Around}(r:Y9 (k+1) A)(env:Env):Y9 k (A.deeper env):=
 ⟨r.hd,by have:=r.dp;show A.depth+1+3*k+5<_;omega,by have:=r.un;show A.units+3+16*k+200<_;omega⟩
theorem C2c{A:Around}{C:Addr}{us:List Value}{kw:List (Str×Value)}:(A.under (.builtin "type.__call__" ⟨.ref C::us,kw⟩)).depth=A.depth+1:=by
 first|rfl|simp[Around.under,Code.weight,Code.isCreation,Code.isGuard,Code.isCaller,Code.frames,Code.isFrame,guardIds]
theorem C2h{A:Around}{C:Addr}{us:List Value}{kw:List (Str×Value)}:(A.under (.builtin "type.__call__" ⟨.ref C::us,kw⟩)).units=A.units+1:=by
 first|rfl|simp[Around.under,Code.cUnits,Code.frames,Code.isFrame]
theorem Y9.make{k:Nat}{A:Around}(r:Y9 (k+1) A)(C:Addr)(us:List Value)(kw:List (Str×Value)):Y9 k (A.under (.builtin "type.__call__" ⟨.ref C::us,kw⟩)):=
 ⟨r.hd,by have:=r.dp;rw[C2c];omega,by have:=r.un;rw[C2h];omega⟩
theorem Y9.depth{k:Nat}{A:Around}(r:Y9 k A):A.depth<recursionLimit:=by have:=r.dp;omega
theorem Y9.units{k:Nat}{A:Around}(r:Y9 k A):A.units+64<cLine:=by have:=r.un;omega
noncomputable def B3m:TA:=fun _ H Q=>Q [] H
noncomputable def A8a (ta:TE) (tr:TA):TA:=fun σ H Q=>ta σ H fun x H1=>tr σ H1 fun xs H2=>Q (x::xs) H2
section
variable{X:Cx}{e:Expr}{es:List Expr}{te:TE}{t:TA}{pos:Pos}
theorem A1:PA X [] B3m:=fun _ _ _ _ H Q I h=>Calls.spliced_nil ⟨[],H,I,.nil,h⟩
theorem A0(ha:PE X e te)(hr:PA X es t)(hs:starEach (e::es) X.env=(false,eval e X.env)::starEach es X.env:=by rfl):PA X (e::es) (A8a te t):=by
 intro pos pins s σ H Q I h
 rw[hs]
 show wpAny _ _ (spliced ((false,eval e X.env)::backTo pos (starEach es X.env))) _ _ s
 refine Calls.spliced_cons (thn (ha pins s σ H _ I h) fun u s1 hh_=>?_)
 obtain⟨x,H1,I1,r1,q1⟩:=hh_
 exact thn (hr pos pins s1 σ H1 _ I1 q1) fun us s2 ⟨xs,H2,I2,r2,q2⟩=>⟨x::xs,H2,I2,.cons r1 r2,q2⟩
noncomputable def G4n (t:TA):TE:=fun σ H Q=>t σ H fun xs H1=>xs.length<=sizeLine/\∀p,H1 p=none ->Q (.ref p) (upd H1 p (.tup xs))
noncomputable def G5k (t:TA):TE:=fun σ H Q=>t σ H fun xs H1=>xs.length<=sizeLine/\∀p,H1 p=none ->Q (.ref p) (upd H1 p (.lst xs))
theorem G6{x1}(h:PA X es t):PE X (.Tuple es x1 pos) (G4n t):=by
 intro pins s σ H Q I hq
 refine wpAny_Tuple_spliced (thn (h pos pins s σ H _ I hq) fun us s1 ⟨xs,H1,I1,r,z,q⟩=>⟨by rw[<-r.length];exact z,?_⟩)
 have hf:H1 s1.heap.objs.size=none:=I1.hok.fresh (Nat.le_refl _)
 refine⟨.ref s1.heap.objs.size,upd H1 s1.heap.objs.size (.tup xs),I1.laid (t':=s1.toks) (fun b u e=>Heap.get?_push_of_some _ e) (Nat.le_refl _) ?_,rfl,q _ hf⟩
 exact⟨z,us,r,⟨_,Heap.get?_push_size _ rfl,rfl,_,rfl⟩⟩
theorem U0(h:PA X es t):PE X (.List es pos) (G5k t):=by
 intro pins s σ H Q I hq
 refine wpAny_List_spliced (thn (h pos pins s σ H _ I hq) fun us s1 ⟨xs,H1,I1,r,z,q⟩=>⟨by rw[<-r.length];exact z,?_⟩)
 have hf:H1 s1.heap.objs.size=none:=I1.hok.fresh (Nat.le_refl _)
 refine⟨.ref s1.heap.objs.size,upd H1 s1.heap.objs.size (.lst xs),I1.laid (t':=s1.toks) (fun b u e=>Heap.get?_push_of_some _ e) (Nat.le_refl _) ?_,rfl,q _ hf⟩
 exact⟨z,us,0,r,Heap.get?_push_size _ rfl⟩
end
noncomputable abbrev Sp:=List V ->Hp ->VK ->XK ->Prop
noncomputable abbrev CXT:=List Env ->Hp ->Shared ->XK ->Value ->Shared ->Prop
structure B9x(P:Program)(w:World)(K:PySem.W.Frag)(mg:Str ->Option Value)(base:Heap)(A:Around)(outer:List Env)(s:Shared)(H:Hp):Prop where
 frames:A.frames=some outer
 mod:Mod K mg base
 bs:∀b o,base.get? b=some o ->s.heap.get? b=some o/\H b=none
 bsz:base.objs.size<=s.heap.objs.size
 funs:s.heap.FunFrames base outer
 frf:∀b∈frs outer,H b=none
 hok:HOk P w H s.heap
 bare:AllBare s.gens
noncomputable def CE (outer:List Env) (P:Program) (w:World) (H:Hp) (s:Shared) (Q:VK) (u:Value) (s':Shared):Prop:=
 ∃v H',s'.os=s.os/\AllBare s'.gens/\Un (frs outer) [] H H' s.heap s'.heap/\HOk P w H' s'.heap/\U4 v u/\Q v H'
noncomputable def CR (CX:CXT) (outer:List Env) (P:Program) (w:World) (H:Hp) (s:Shared) (Q:VK) (E:XK) (r:Result) (s':Shared):Prop:=
 match r with
 | .ok (.ret u)=>CE outer P w H s Q u s'
 | .ok _=>False
 | .error e=>CX outer H s E e s'
structure A9(P:Program)(w:World)(K:PySem.W.Frag)(mg:Str ->Option Value)(base:Heap)(CX:CXT)(k:Nat)(f:Addr)(fd:FuncData)(ps:List Str)(sp:Sp):Prop where
 len:∀vs H Q E,sp vs H Q E ->vs.length=ps.length
 run:∀(A:Around) (outer:List Env) (s:Shared) (H:Hp) (args:Args) (us:List Value) (vs:List V) (Q:VK) (E:XK),Y9 k A ->B9x P w K mg base A outer s H ->BindsTo s fd args (ps.zip us) ->J0 vs us ->sp vs H Q E ->
   codeAny (model P w) A (.call (.ref f) args) (CR CX outer P w H s Q E) s
theorem A9.mono{P:Program}{w:World}{K:PySem.W.Frag}{mg:Str ->Option Value}{base:Heap}{CX:CXT}{j k:Nat}{f:Addr}{fd:FuncData}{ps:List Str}{sp:Sp}(F:A9 P w K mg base CX j f fd ps sp)(h:j<=k):
   A9 P w K mg base CX k f fd ps sp:=⟨F.len,fun A outer s H args us vs Q E hr=>F.run A outer s H args us vs Q E (hr.mono h)⟩
theorem B9x.make{P:Program}{w:World}{K:PySem.W.Frag}{mg:Str ->Option Value}{base:Heap}{A:Around}{outer:List Env}{s:Shared}{H:Hp}(e:B9x P w K mg base A outer s H)(C:Addr)(us:List Value)(kw:List (Str×Value)):
   B9x P w K mg base (A.under (.builtin "type.__call__" ⟨.ref C::us,kw⟩)) outer s H:=⟨by first|exact e.frames|(simpa[Around.under,Code.envs,Code.isFrame,pushEnvs] using e.frames),e.mod,e.bs,e.bsz,e.funs,e.frf,e.hok,e.bare⟩
section
variable{X:Cx}{pins:List (Addr×Obj)}{σ:St}{H:Hp}{s s':Shared}
theorem Inv.env0(I:Inv X pins σ H s):B9x X.prog X.w X.K X.mg X.base X.A X.stack s H:=
 ⟨I.ok.frames,I.ok.mod,I.bs,Nat.le_trans I.ok.bsz I.sz,I.stack,I.stkFree,I.hok,I.bare⟩
theorem Inv.after{Q:VK}{u:Value}(I:Inv X pins σ H s)(h:CE X.stack X.prog X.w H s Q u s'):EP X pins σ Q u s':=by
 obtain⟨v,H',os,bare,un,hok,r,q⟩:=h
 obtain⟨hh,g,d,t,os'⟩:=s'
 obtain rfl:os'=s.os:=os
 exact⟨v,H',I.call (h':=hh) (g':=g) (d':=d) (t':=t) (ch:=[]) un hok bare (fun b z=>absurd z (by simp)),r,q⟩
end
noncomputable def J1h (C:Addr) (sp:Sp) (dvs:List V) (E:XK) (t:TA):TE:=fun σ H Q=>t σ H fun vs H1=>∀x dx,H1 x=none ->H1 dx=none ->dx≠x ->
 sp (.ref x::(vs++dvs)) (upd (upd H1 dx (.own x)) x (.ins C dx [])) (fun v H2=>v= .non/\Q (.ref x) H2) E
noncomputable def Binds (K:PySem.W.Frag) (fd:FuncData) (ps:List Str) (ds:List Value):Prop:=
 ∀(s:Shared) (us:List Value),K.In s.heap ->(us++ds).length=ps.length ->BindsTo s fd ⟨us,[]⟩ (ps.zip (us++ds))
theorem Binds.all{K:PySem.W.Frag}{fd:FuncData}{ps:List Str}(h:∀us:List Value,us.length=ps.length ->bindArgs fd ⟨us,[]⟩=pure (ps.zip us)):Binds K fd ps []:=fun s us _ hl=>by
 rw[List.append_nil] at hl ⊢
 exact .of_eq (h us hl)
noncomputable def C1b (CX:CXT) (X:Cx) (E:XK):Prop:=∀(pins:List (Addr×Obj)) (σ:St) (H:Hp) (s:Shared) (e:Value) (s':Shared),Inv X pins σ H s ->CX X.stack H s E e s' ->X.xe e s'
section
variable{X:Cx}{CX:CXT}{k:Nat}{f C:Addr}{fd:FuncData}{ps:List Str}{sp:Sp}{dvs:List V}{ds:List Value}{E:XK}{x m:Str}{p pos apos:Pos}{e o:Expr}{es:List Expr}{ta:TE}{t:TA}
structure Mk(K:PySem.W.Frag)(C f:Addr):Prop where
 makes:PySem.W.makesIn K C=true
 init:PySem.W.findIn K (.ref C) "__init__"=some (some (.ref f))
 fn:PySem.W.isFn K (.ref f)=true
 kp:PySem.W.keepIn K (.ref C)=true
theorem C9f{pins:List (Addr×Obj)}{σ:St}{H:Hp}{s:Shared}{Q:VK}{us:List Value}{vs:List V}(M:Mk X.K C f)(F:A9 X.prog X.w X.K X.mg X.base CX k f fd ps sp)(hr:Y9 (k+1) X.A)(hb:Binds X.K fd ps ds)(hd:J0 dvs ds)
   (hx:C1b CX X E) (I:Inv X pins σ H s) (r:J0 vs us)
   (h:∀x dx,H x=none ->H dx=none ->dx≠x ->sp (.ref x::(vs++dvs)) (upd (upd H dx (.own x)) x (.ins C dx [])) (fun v H2=>v= .non/\Q (.ref x) H2) E):
   wpAny (model X.prog X.w) X.A (call (.ref C) us) (EP X pins σ Q) X.xe s:=by
 have hq:=h (s.heap.objs.size+1) s.heap.objs.size (I.hok.fresh (Nat.le_succ _)) (I.hok.fresh (Nat.le_refl _)) (Nat.ne_of_lt (Nat.lt_succ_self _))
 have I2:=Inv.made (C:=C) I
 have r2:J0 (V.ref (s.heap.objs.size+1)::(vs++dvs)) (Value.ref (s.heap.objs.size+1)::(us++ds)):= .cons rfl (r.append hd)
 have hl:(Value.ref (s.heap.objs.size+1)::us++ds).length=ps.length:=by
   have e:=r2.length
   rw[F.len _ _ _ _ hq] at e
   exact e.symm
 refine wpAny_call (B9q (f:=f) I.kIn M.makes M.init (beq_iff_eq.mp M.fn) (codeAny_mono (F.run _ X.stack _ _ ⟨Value.ref (s.heap.objs.size+1)::us,[]⟩ (Value.ref (s.heap.objs.size+1)::(us++ds)) _ _ E (hr.make C us [])
   (I2.env0.make C us []) (hb _ (Value.ref (s.heap.objs.size+1)::us) I2.kIn hl) r2 hq) fun r s' hq'=>?_))
 cases r with
 |error e=>exact hx pins σ _ _ e s' I2 hq'
 | ok fl=>
   cases fl with
   | ret u=>
     obtain⟨v,H',I3,rv,ev,q3⟩:=I2.after hq'
     subst ev
     exact⟨rv,⟨V.ref (s.heap.objs.size+1),H',I3,rfl,q3⟩⟩
   |next=>exact False.elim hq'
   |brk=>exact False.elim hq'
   |cont=>exact False.elim hq'
theorem B6p(M:Mk X.K C f)(F:A9 X.prog X.w X.K X.mg X.base CX k f fd ps sp)(hr:Y9 (k+1) X.A)(hg:Gl X x)(hm:X.mg x=some (.ref C))(hb:Binds X.K fd ps ds)(hd:J0 dvs ds)(hx:C1b CX X E)
   (ha:PA X (e::es) t) (hdb:(x==("__debug__":Str))=false:=by decide) (he:starEach (e::es) X.env=(false,eval e X.env)::starEach es X.env:=by rfl) (hpl:(backTo pos (starEach es X.env)).any (·.1)=false:=by rfl):
   PE X (.Call (.Name x p) (e::es) [] pos) (J1h C sp dvs E t):=by
 intro pins s σ H Q I h
 refine wpAny_Call_Name_kw (Z8 I hg hm ?_ hdb)
 refine PySem.W.callWith_K (h₀:=X.base) I.ok.mod.kin M.kp (thn (ha pos pins s σ H _ I h) fun us s1 ⟨vs,H1,I1,r,q⟩=>⟨I1.kIn,?_⟩) he hpl
 exact C9f M F hr hb hd hx I1 r q
end
section
variable{X:Cx}{CX:CXT}{k:Nat}{f C:Addr}{fd:FuncData}{ps ks:List Str}{sp:Sp}{E:XK}{x m:Str}{p pos apos kpos:Pos}{e o:Expr}{es:List Expr}{kws:List Keyword}{te ta:TE}{t tk:TA}{nm:Option Str}
structure G8z(K:PySem.W.Frag)(fd:FuncData)(ps ks:List Str)(g:List Value ->List Value ->List Value)(gV:List V ->List V ->List V):Prop where
 to:∀(s:Shared) (us ws:List Value),K.In s.heap ->(g us ws).length=ps.length ->BindsTo s fd ⟨us,ks.zip ws⟩ (ps.zip (g us ws))
 rel:∀{vs:List V} {us:List Value} {zs:List V} {ws:List Value},J0 vs us ->J0 zs ws ->J0 (gV vs zs) (g us ws)
variable{g:List Value ->List Value ->List Value}{gV:List V ->List V ->List V}
end
structure B0(N P:List Str)(sc:Scope):Prop where
 kind:sc.kind= .function
 co:sc.isCoroutine=false
 gen:sc.isGenerator=false
 nd:N.Nodup
 pre:N.take P.length=P
 par:∀x∈P,sc.names.lookup x=some .local\/sc.names.lookup x=some .cell
 nofree:∀y∈sc.names,y.2≠ .free
theorem B3s{kindOf:Str ->Option NameKind}{x:Str}:∀{binds:List (Str×Value)} {m:Str ->Option Value},(∀v,(x,v) ∉ binds) ->bindL kindOf binds m x=m x
 | [],_,_=>rfl
 | (n,v)::r,m,h=>by
   unfold bindL
   rw[B3s fun w hw=>h w (List.mem_cons_of_mem _ hw)]
   split
   . have:x≠n:=by rintro rfl;exact h v List.mem_cons_self
     simp[this]
   . rfl
theorem B4x{kindOf:Str ->Option NameKind}{x:Str}:∀{binds:List (Str×Value)} {m:Str ->Option Value},(∀v,(x,v) ∉ binds) ->bindC kindOf binds m x=m x
 | [],_,_=>rfl
 | (n,v)::r,m,h=>by
   unfold bindC
   rw[B4x fun w hw=>h w (List.mem_cons_of_mem _ hw)]
   split
   . rfl
   . have:x≠n:=by rintro rfl;exact h v List.mem_cons_self
     simp[this]
theorem B4a{kindOf:Str ->Option NameKind}{x:Str}{v:Value}:∀{P:List Str} {vs:List Value} {i:Nat} {m:Str ->Option Value},P.Nodup ->P[i]?=some x ->vs[i]?=some v ->kindOf x=some .local ->
   bindL kindOf (P.zip vs) m x=some v
 | [],_,_,_,_,h,_,_=>by simp at h
 |_::_,[],_,_,_,_,h,_=>by simp at h
 | p::P,w::vs,0,m,nd,h1,h2,hk=>by
   simp at h1 h2;subst h1;subst h2
   show bindL kindOf ((p,w)::P.zip vs) m p=_
   unfold bindL
   rw[B3s fun v hv=>(List.nodup_cons.mp nd).1 (List.of_mem_zip hv).1,if_pos hk]
   simp
 | p::P,w::vs,i+1,m,nd,h1,h2,hk=>by
   show bindL kindOf ((p,w)::P.zip vs) m x=_
   unfold bindL
   exact B4a (i:=i) (List.nodup_cons.mp nd).2 (by simpa using h1) (by simpa using h2) hk
theorem B4k{kindOf:Str ->Option NameKind}{x:Str}{v:Value}:∀{P:List Str} {vs:List Value} {i:Nat} {m:Str ->Option Value},P.Nodup ->P[i]?=some x ->vs[i]?=some v ->kindOf x≠some .local ->
   bindC kindOf (P.zip vs) m x=some v
 | [],_,_,_,_,h,_,_=>by simp at h
 |_::_,[],_,_,_,_,h,_=>by simp at h
 | p::P,w::vs,0,m,nd,h1,h2,hk=>by
   simp at h1 h2;subst h1;subst h2
   show bindC kindOf ((p,w)::P.zip vs) m p=_
   unfold bindC
   rw[B4x fun v hv=>(List.nodup_cons.mp nd).1 (List.of_mem_zip hv).1,if_neg hk]
   simp
 | p::P,w::vs,i+1,m,nd,h1,h2,hk=>by
   show bindC kindOf ((p,w)::P.zip vs) m x=_
   unfold bindC
   exact B4k (i:=i) (List.nodup_cons.mp nd).2 (by simpa using h1) (by simpa using h2) hk
noncomputable def A2d (N:List Str) (vs:List V):St:=vs.map some++List.replicate (N.length-vs.length) none
noncomputable def A0v (CX:CXT) (P:Program) (w:World) (K:PySem.W.Frag) (mg:Str ->Option Value) (base:Heap) (N:List Str) (qual:Str) (scope:Scope) (f:Addr) (cd:Value) (A:Around) (outer:List Env) (s:Shared) (H:Hp) (E:XK):Cx where
 prog:=P
 w:=w
 K:=K
 mg:=mg
 base:=base
 A:=A.deeper (envOfC qual scope s.heap.objs.size f cd)
 N:=N
 s₀:=s
 H₀:=H
 env:=envOfC qual scope s.heap.objs.size f cd
 outer:=outer
 stack:=envOfC qual scope s.heap.objs.size f cd::outer
 ex:=[]
 calm:=true
 fn:=fun _=>true
 pn:=[]
 xe:=fun e s'=>wpAny (model P w) (A.deeper (envOfC qual scope s.heap.objs.size f cd)) (leaving (envOfC qual scope s.heap.objs.size f cd) e) (fun _ s''=>CX outer H s E e s'') (fun e' s''=>CX outer H s E e' s'') s'
theorem B7v{sc:Scope}{n:Nat}{x:Str}(h:sc.names.lookup x=some .cell):∃c,(cellsFrom n sc.names []).lookup x=some c:=by
 have q:=PySem.W.cellsFrom_some sc.names n [] (.inl h)
 exact Option.isSome_iff_exists.mp q
theorem B4d{CX:CXT}{P:Program}{w:World}{K:PySem.W.Frag}{mg:Str ->Option Value}{base:Heap}{N ps:List Str}{qual:Str}{scope:Scope}{f:Addr}{cd:Value}{A:Around}{outer:List Env}{s s1:Shared}{H:Hp}{E:XK}{us:List Value}{vs:List V}
   (S:B0 N ps scope) (hd:A.handled=none) (e0:B9x P w K mg base A outer s H) (hl:vs.length=ps.length) (r:J0 vs us)
   (x:InCallC s s.heap.objs.size (bindL (envOfC qual scope s.heap.objs.size f cd).kindOf (ps.zip us) fun _=>none) (cellsFrom (s.heap.objs.size+1) scope.names []) (bindC (envOfC qual scope s.heap.objs.size f cd).kindOf (ps.zip us) fun _=>none) s1):
   Inv (A0v CX P w K mg base N qual scope f cd A outer s H E) [] (A2d N vs) H s1:=by
 have hpl:ps.length<=N.length:=by have:=congrArg List.length S.pre;rw[List.length_take] at this;omega
 obtain⟨h1,tk,rfl,hk⟩:=x.done
 have noA:∀b:Addr,b ∉ (A0v CX P w K mg base N qual scope f cd A outer s H E).ex:=fun b z=>absurd (show b∈([]:List Addr) from z) (by simp)
 refine⟨⟨e0.mod,S.kind,rfl,rfl,Nat.le_refl _,fun y z c h1 h2=>?_,fun y hy=>?_,fun y c _ h=>?_,fun _=>hd,Around.frames_deeper e0.frames,.inr ⟨rfl,rfl⟩,fun b z=>absurd z (noA b),e0.bs,e0.bsz,fun b _ _=>noA b,fun b z=>absurd z (noA b),e0.funs,e0.frf⟩,
   rfl,e0.bare,Un.kept hk,⟨_,x.toInCall.ns,fun i y v h1 h2 h3=>?_⟩,fun y c h=>⟨_,x.cell y c h⟩,e0.hok.fresh (Nat.le_refl _),fun y c h=>?_,fun p hp=>absurd (show p∈([]:List (Addr×Obj)) from hp) (by simp),e0.hok.kept hk,?_⟩
 . exact name_of_addr x.apart (PySem.mem_of_lookup h1) (PySem.mem_of_lookup h2)
 . have hy:scope.names.lookup y=some .cell\/scope.names.lookup y=some .free:=hy
   rcases hy with hy|hy
   . exact B7v hy
   . exact absurd rfl (S.nofree _ (PySem.mem_of_lookup hy))
 . exact Nat.le_of_lt (x.above y c (PySem.mem_of_lookup h))
 . have hi:i<vs.length:=by
     unfold A2d at h2
     by_cases hi:i<vs.length
     . exact hi
     . rw[List.getElem?_append_right (by simpa using hi)] at h2
       rw[List.getElem?_replicate] at h2
       split at h2<;>cases h2
   have ha:vs[i]?=some v:=by
     unfold A2d at h2
     rw[List.getElem?_append_left (by simpa using hi),List.getElem?_map] at h2
     cases e:vs[i]? with
     |none=>rw[e] at h2;cases h2
     |some a=>rw[e] at h2;cases h2;rfl
   obtain⟨u,hu,rv⟩:=r.get ha
   have hp:ps[i]?=some y:=by
     rw[<-S.pre,List.getElem?_take_of_lt (by omega)];exact h1
   have ndP:ps.Nodup:=by rw[<-S.pre];exact S.nd.sublist (List.take_sublist _ _)
   refine⟨u,rv,?_⟩
   rcases S.par y (List.mem_of_getElem? hp) with k|k
   . exact .inl ⟨k,B4a ndP hp hu k⟩
   . obtain⟨c,e⟩:=B7v (n:=s.heap.objs.size+1) k
     refine .inr ⟨.inl k,c,e,?_⟩
     have q:=x.cell y c e
     rw[B4k ndP hp hu (by show scope.names.lookup y≠_;rw[k];decide)] at q
     exact q
 . exact e0.hok.fresh (Nat.le_of_lt (x.above y c (PySem.mem_of_lookup h)))
 unfold A2d
 show _=N.length
 rw[List.length_append,List.length_map,List.length_replicate]
 omega
theorem C9e{CX:CXT}{P:Program}{w:World}{K:PySem.W.Frag}{mg:Str ->Option Value}{base:Heap}{k:Nat}{f:Addr}{name qual:Str}{params:Arguments}{body:List Stmt}{scope:Scope}{dV kV doc pm cdv ct oc:Value}{an od:Option Addr}
   {osl:Array (Option Value)} {N ps:List Str} {sp:Sp} (lk:K.lookup f=some ⟨oc,od,.func (PySem.W.fnOf name qual params body scope dV kV doc pm an cdv ct),osl⟩) (hcd:PySem.W.codeIn K cdv qual=true) (S:B0 N ps scope)
   (len:∀vs H Q E,sp vs H Q E ->vs.length=ps.length)
   (hbody:∀(A:Around) (outer:List Env) (s:Shared) (H:Hp) (vs:List V) (Q:VK) (E:XK),Y9 k (A.deeper (envOfC qual scope s.heap.objs.size f cdv)) ->sp vs H Q E ->
     ∃t,PSs (A0v CX P w K mg base N qual scope f cdv A outer s H E) body t/\t {nx:=fun _ H'=>Q .non H',rt:=Q} (A2d N vs) H):
   A9 P w K mg base CX (k+1) f (PySem.W.fnOf name qual params body scope dV kV doc pm an cdv ct) ps sp:=by
 refine⟨len,fun A outer s H args us vs Q E hr e0 hb r hsp=>?_⟩
 have hl:=len _ _ _ _ hsp
 have KX:K.In s.heap:=e0.mod.kin.keeps fun b o e=>(e0.bs b o e).1
 have lim:s.heap.NoLimit:=e0.mod.nolimit.keeps fun b o e=>(e0.bs b o e).1
 have hkind:∀y∈ps.zip us,scope.names.lookup y.1=some .local\/(scope.names.lookup y.1=some .cell/\((cellsFrom (s.heap.objs.size+1) scope.names []).lookup y.1).isSome=true):=fun⟨n,v⟩ hy=>by
   rcases S.par n (List.of_mem_zip hy).1 with q|q
   . exact .inl q
   . exact .inr ⟨q,PySem.W.cellsFrom_some _ _ _ (.inl q)⟩
 refine codeAny_call_function hr.depth (KX _ _ lk) rfl S.co S.gen rfl (PySem.W.codeRec_of KX hcd) (hb _ _ _ _ ?_)
 refine wpAny_newFunctionEnv_cells S.kind hkind fun env he s1 x=>?_
 subst he
 refine⟨lim.keeps x.toInCall.keep,codeAny_func ?_⟩
 obtain⟨t,ht,hq⟩:=hbody A outer s H vs Q E (hr.deeper _) hsp
 have I:Inv (A0v CX P w K mg base N qual scope f cdv A outer s H E) [] (A2d N vs) H s1:=B4d S hr.hd e0 hl r x
 refine wpAny_mono (ht [] s1 (A2d N vs) H _ I hq) (fun fl s' hs=>?_) fun e s' hs=>hs
 have fin:∀{σ':St} {H':Hp} {v:V} {u:Value},Inv (A0v CX P w K mg base N qual scope f cdv A outer s H E) [] σ' H' s' ->U4 v u ->Q v H' ->CE outer P w H s Q u s':=
   fun{σ' H' v u} J rv q=>⟨v,H',J.os,J.bare,J.base,J.hok,rv,q⟩
 cases fl with
 | ret u=>
   obtain⟨v,σ',H',J,rv,q⟩:=hs
   exact fin J rv q
 | next=>
   obtain⟨σ',H',J,q⟩:=hs
   exact fin (v:=V.non) (u:=Value.none) J rfl q
 | brk=>
   obtain⟨_,_,_,q⟩:=hs
   exact False.elim q
 | cont=>
   obtain⟨_,_,_,q⟩:=hs
   exact False.elim q
section
variable{X:Cx}{x:Str}{p pos:Pos}{e:Expr}{es:List Expr}{t:TA}{id T:String}{r:List V ->Hp ->VK ->Prop}
noncomputable def tCB (r:List V ->Hp ->VK ->Prop) (t:TA):TE:=fun σ H Q=>t σ H fun vs H1=>r vs H1 Q
theorem U2(hc:A3z X (.builtin id) r)(hg:Gl X x)(hm:X.mg x=none)(hv:bootBuiltins x=some (.builtin id))(ha:PA X (e::es) t)(hn:x≠"__name__":=by decide)(hdb:(x==("__debug__":Str))=false:=by decide)
   (he:starEach (e::es) X.env=(false,eval e X.env)::starEach es X.env:=by rfl) (hpl:(backTo pos (starEach es X.env)).any (·.1)=false:=by rfl):PE X (.Call (.Name x p) (e::es) [] pos) (tCB r t):=by
 intro pins s σ H Q I h
 refine wpAny_Call_Name_kw (B5w I hg hm hv ?_ hn hdb)
 exact PyProof.Rows.callWith_builtin1 (thn (ha pos pins s σ H _ I h) fun us s1 ⟨vs,H1,I1,r1,q1⟩=>hc pins s1 σ H1 vs us Q I1 r1 q1) he hpl
theorem Z4(hc:A3z X (.type T) r)(hg:Gl X x)(hm:X.mg x=none)(hv:bootBuiltins x=some (.type T))(ha:PA X (e::es) t)(hn:x≠"__name__":=by decide)(hdb:(x==("__debug__":Str))=false:=by decide)
   (he:starEach (e::es) X.env=(false,eval e X.env)::starEach es X.env:=by rfl) (hpl:(backTo pos (starEach es X.env)).any (·.1)=false:=by rfl):PE X (.Call (.Name x p) (e::es) [] pos) (tCB r t):=by
 intro pins s σ H Q I h
 refine wpAny_Call_Name_kw (B5w I hg hm hv ?_ hn hdb)
 exact PyProof.Rows.callWith_type1 (thn (ha pos pins s σ H _ I h) fun us s1 ⟨vs,H1,I1,r1,q1⟩=>hc pins s1 σ H1 vs us Q I1 r1 q1) he hpl
end
end L2
namespace HT
open PySem PyProof.Rows
section
open PySem.SeqAt
open PySem.AutoSeq1 (wpAny_loadPart')
open PySem.MeetsSeq PySem.MeetsSeq2 PySem.MeetsSeq3
end
section
variable{prog:Program}{w:World}{A:Around}{E:Value ->Shared ->Prop}{s:Shared}
noncomputable def sIx (n d:Nat):Option Int ->Nat
 |none=>d
 |some v=>if v<0 then(v+(n:Int)).toNat else min v.toNat n
theorem sIx_none(n d:Nat):sIx n d none=d:=rfl
theorem sIx_nat(n d k:Nat):sIx n d (some (k:Int))=min k n:=by
 show(if(k:Int)<0 then((k:Int)+(n:Int)).toNat else min (k:Int).toNat n)=min k n
 rw[if_neg (by omega),Int.toNat_natCast]
end
end HT
namespace L2
open PySem PySem.Spec PyProof.Rows
noncomputable abbrev TO:=St ->Hp ->(Option Int ->Hp ->Prop) ->Prop
noncomputable def PO (X:Cx) (e:Option Expr) (t:TO):Prop:=
 ∀ (pins:List (Addr×Obj)) (s:Shared) (σ:St) (H:Hp) (Q:Option Int ->Hp ->Prop),Inv X pins σ H s ->t σ H Q ->
   wpAny (model X.prog X.w) X.A (evalPart e X.env) (fun u s'=>∃o H',Inv X pins σ H' s'/\IsPart u o/\Q o H') X.xe s
noncomputable def G0g:TO:=fun _ H Q=>Q none H
noncomputable def J4h (t:TE):TO:=fun σ H Q=>t σ H fun x H1=>∃i,x= .int i/\Q (some i) H1
section
variable{X:Cx}{e:Expr}{te:TE}{lo hi:Option Expr}{tl th:TO}{pos p2:Pos}
theorem A1g:PO X none G0g:=by
 intro pins s σ H Q I h
 rw[evalPart_none]
 exact wpAny_pure ⟨none,H,I,.none,h⟩
theorem A1e(h:PE X e te):PO X (some e) (J4h te):=by
 intro pins s σ H Q I hw
 rw[evalPart_some]
 refine thn (h pins s σ H _ I hw) fun u s1 hh_=>?_
 obtain⟨x,H1,I1,r1,q1⟩:=hh_
 obtain⟨i,rfl,q⟩:=q1
 obtain⟨t,rfl⟩:=r1
 exact⟨some i,H1,I1,.int i t,q⟩
noncomputable def SlR (X:Cx) (r:V ->Option Int ->Option Int ->Hp ->VK ->Prop):Prop:=
 ∀ (pins:List (Addr×Obj)) (s:Shared) (σ:St) (H:Hp) (x:V) (v vl vu:Value) (lo hi:Option Int) (sl:Addr) (Q:VK),Inv X pins σ H s ->U4 x v ->s.heap.IsSliceOf sl vl vu .none ->IsPart vl lo ->IsPart vu hi ->r x lo hi H Q ->
   ∃T id,typeLookup (.type T) "__getitem__"=pure (some (.builtin id))/\s.TypeIs v T/\wpAny (model X.prog X.w) X.A (getItem v (.ref sl)) (EP X pins σ Q) X.xe s
noncomputable def tSl (r:V ->Option Int ->Option Int ->Hp ->VK ->Prop) (te:TE) (tl th:TO):TE:=fun σ H Q=>te σ H fun x H1=>tl σ H1 fun l H2=>th σ H2 fun u H3=>r x l u H3 Q
theorem A0m{r:V ->Option Int ->Option Int ->Hp ->VK ->Prop}(hr:SlR X r)(he:PE X e te)(hl:PO X lo tl)(hu:PO X hi th):PE X (.Subscript e (.Slice lo hi none p2) pos) (tSl r te tl th):=by
 intro pins s σ H Q I h
 refine Subscript_ (thn (he pins s σ H _ I h) fun v s1 hh_=>?_)
 obtain⟨x,H1,I1,r1,q1⟩:=hh_
 refine wpAny_Slice (thn (hl pins s1 σ H1 _ I1 q1) fun vl s2 ⟨l,H2,I2,pl,q2⟩=>thn (hu pins s2 σ H2 _ I2 q2) fun vu s3 hh_=>?_)
 obtain⟨u,H3,I3,pu,q3⟩:=hh_
 rw[evalPart_none]
 refine wpAny_pure ?_
 have I4:Inv X pins σ H3 {s3 with heap:=s3.heap.push {cls:= .type "slice",data:= .fields #[vl,vu,.none]}}:=I3.kept (t':=s3.toks) fun b ob q=>Heap.get?_push_of_some _ q
 obtain⟨T,id,hT,ht,hg⟩:=hr pins {s3 with heap:=s3.heap.push {cls:= .type "slice",data:= .fields #[vl,vu,.none]}} σ H3 x v vl vu l u s3.heap.objs.size Q I4 r1 (Heap.IsSliceOf.new ..) pl pu q3
 show wpAny (model X.prog X.w) X.A (subscriptTail e (.Slice lo hi none p2) v (.ref s3.heap.objs.size)) (EP X pins σ Q) X.xe {s3 with heap:=s3.heap.push {cls:= .type "slice",data:= .fields #[vl,vu,.none]}}
 exact tail_any (ops:=[.ref s3.heap.objs.size,v]) ht hT hg (by with_unfolding_all rfl)
noncomputable def A4b (xs:List V) (lo hi:Option Int):List V:=(xs.drop (HT.sIx xs.length 0 lo)).take (HT.sIx xs.length xs.length hi-HT.sIx xs.length 0 lo)
theorem B9e(xs:List V)(lo hi:Option Int):(A4b xs lo hi).length<=xs.length:=by
 unfold A4b
 rw[List.length_take,List.length_drop]
 omega
end
noncomputable def ixN (n:Nat) (i:Int):Option Nat:=if 0<=i then(if i<n then some i.toNat else none) else if -(n:Int)<=i then some (i+n).toNat else none
noncomputable def atI {α:Type} (xs:List α) (i:Int):Option α:=(ixN xs.length i).bind fun j=>xs[j]?
theorem G2e{n:Nat}{i:Int}{j:Nat}(h:ixN n i=some j):seqIndex? i n=some j/\j<n/\ -(n:Int)<=i/\i<n:=by
 unfold ixN at h
 by_cases h0:0<=i
 . rw[if_pos h0] at h
   by_cases h1:i<n
   . rw[if_pos h1] at h
     have e:i.toNat=j:=Option.some.inj h
     exact⟨by rw[seqIndex_of h0 h1,e],by omega,by omega,h1⟩
   . rw[if_neg h1] at h;cases h
 rw[if_neg h0] at h
 by_cases h1: -(n:Int)<=i
 . rw[if_pos h1] at h
   have e:(i+n).toNat=j:=Option.some.inj h
   exact⟨by rw[seqIndex_neg (by omega) h1,e],by omega,h1,by omega⟩
 rw[if_neg h1] at h;cases h
theorem A7t{α:Type}{xs:List α}{i:Int}{v:α}(h:atI xs i=some v):∃j,seqIndex? i xs.length=some j/\xs[j]?=some v/\j<xs.length/\ -(xs.length:Int)<=i/\i<xs.length:=by
 unfold atI at h
 cases e:ixN xs.length i with
 |none=>rw[e] at h;cases h
 | some j=>
   rw[e] at h
   obtain⟨h1,h2,h3,h4⟩:=G2e e
   exact⟨j,h1,h,h2,h3,h4⟩
theorem G5{α:Type}{xs:List α}{j:Nat}{v:α}(h:xs[j]?=some v):atI xs (j:Int)=some v:=by
 have hj:j<xs.length:=(List.getElem?_eq_some_iff.mp h).1
 have e:ixN xs.length (j:Int)=some j:=by
   unfold ixN
   rw[if_pos (by omega),if_pos (by omega)];simp
 unfold atI;rw[e];exact h
noncomputable def B6g (b:Expr):Prop:=∀o i,subscripted b false o i=operate [o,i] (getItem o i)
noncomputable def IxR (X:Cx) (r:R2):Prop:=
 ∀ (value slice:Expr) (pins:List (Addr×Obj)) (s:Shared) (σ:St) (H:Hp) (x y:V) (v u:Value) (Q:VK),Inv X pins σ H s ->U4 x v ->U4 y u ->r x y H Q ->
   subscripted slice false v u=operate [v,u] (getItem v u) ->wpAny (model X.prog X.w) X.A (subscriptTail value slice v u) (EP X pins σ Q) X.xe s
noncomputable def MtR (X:Cx) (id:String) (r:V ->List V ->Hp ->VK ->Prop):Prop:=
 ∀ (pins:List (Addr×Obj)) (s:Shared) (σ:St) (H:Hp) (x:V) (xs:List V) (v:Value) (us:List Value) (Q:VK),Inv X pins σ H s ->U4 x v ->J0 xs us ->r x xs H Q ->
   wpAny (model X.prog X.w) X.A (call (.builtin id) (v::us)) (EP X pins σ Q) X.xe s
section
variable{X:Cx}{a b:Expr}{ta tb:TE}{pos:Pos}
theorem V3{r:R2}(hr:IxR X r)(ha:PE X a ta)(hb:PE X b tb)(hs:B6g b):PE X (.Subscript a b pos) (tOp r ta tb):=by
 intro pins s σ H Q I h
 exact Subscript_ (G5y ha hb I h fun v u s2 x y H2 I2 rx ry q=>hr a b pins s2 σ H2 x y v u Q I2 rx ry q (hs _ _))
noncomputable def J6e (K:PySem.W.Frag):R2:=fun x y H Q=>∃p xs i v,x= .ref p/\y= .int i/\SqL K H p xs/\atI xs i=some v/\Q v H
noncomputable def J3r (K:PySem.W.Frag):R2:=fun x y H Q=>∃p xs i v,x= .ref p/\y= .int i/\SqT K H p xs/\atI xs i=some v/\Q v H
noncomputable def J7n:R2:=fun x y H Q=>∃z i c,x= .str z/\y= .int i/\z.length<=sizeLine/\atI z.cps.toList i=some c/\Q (.str ⟨#[c]⟩) H
theorem V9:IxR X (J6e X.K):=by
 intro value slice pins s σ H x y v u Q I rx ry h hs
 obtain⟨p,xs,i,z,rfl,rfl,hq,he,q⟩:=h
 cases rx
 obtain⟨t,rfl⟩:=ry
 obtain⟨its,r,pl,hz⟩:=I.list hq
 obtain⟨j,h1,h2,h3,h4,h5⟩:=A7t he
 obtain⟨w,ew,rw'⟩:=r.get h2
 have hl:=r.length
 have hn:=A6j
 have fin:EP X pins σ Q w s:=⟨z,H,I,rw',q⟩
 by_cases h0:0<=i
 . have hj:i.toNat=j:=by
     rw[seqIndex_of h0 h5] at h1
     exact Option.some.inj h1
   exact item_listR pl.isList h0 (by omega) (by rw[hj];simpa using ew) fin hs
 have hj:(i+(its.toArray.size:Int)).toNat=j:=by
   rw[seqIndex_neg (by omega) h4] at h1
   rw[List.size_toArray, <-hl]
   exact Option.some.inj h1
 exact subscriptTail_builtinR (x:=w) pl.isList.typeIs slot_list_getitem.lookup
   (wpAny_getItem_list_neg (Q:=fun r s'=>r=w/\EP X pins σ Q r s') pl.isList (by omega) (by rw[List.size_toArray]<;>omega) (by omega) (by rw[hj];simpa using ew) ⟨rfl,fin⟩) hs
theorem A0h:IxR X (J3r X.K):=by
 intro value slice pins s σ H x y v u Q I rx ry h hs
 obtain⟨p,xs,i,z,rfl,rfl,hq,he,q⟩:=h
 cases rx
 obtain⟨t,rfl⟩:=ry
 obtain⟨its,r,pl,hz⟩:=I.tuple hq
 obtain⟨j,h1,h2,h3,h4,h5⟩:=A7t he
 obtain⟨w,ew,rw'⟩:=r.get h2
 have hl:=r.length
 have hn:=A6j
 have fin:EP X pins σ Q w s:=⟨z,H,I,rw',q⟩
 exact subscriptTail_builtinR (x:=w) pl.typeIs slot_tuple_getitem.lookup
   (getItem_tuple (j:=j) (Q:=fun r s'=>r=w/\EP X pins σ Q r s') pl (by omega) (by omega) (by rw[List.size_toArray, <-hl];exact h1) (by simpa using ew) ⟨rfl,fin⟩) hs
theorem G6z:IxR X J7n:=by
 intro value slice pins s σ H x y v u Q I rx ry h hs
 obtain⟨z,i,c,rfl,rfl,hz,he,q⟩:=h
 obtain⟨t,rfl⟩:=rx
 obtain⟨t',rfl⟩:=ry
 obtain⟨j,h1,h2,h3,h4,h5⟩:=A7t he
 have hl:z.cps.toList.length=z.length:=by simp[Str.length]
 rw[hl] at h1 h4 h5
 have hn:=A6j
 exact tail_any (typeIs_str s z t) slot_str_getitem.lookup (getItem_str (c:=c) (by
   have e1:decide (i< -(2^63:Int))=false:=decide_eq_false (by omega)
   have e2:decide (i>=2^63)=false:=decide_eq_false (by omega)
   rw[e1,e2,Bool.or_false]) (by rw[h1];simpa using h2) ⟨.str ⟨#[c]⟩,H,I.tok _,⟨_,rfl⟩,q⟩) hs
theorem B7f(lo hi:Option Int)(n:Nat):(sliceBounds lo hi none n).1=((HT.sIx n 0 lo:Nat):Int)/\(sliceBounds lo hi none n).2.1=((HT.sIx n n hi:Nat):Int)/\(sliceBounds lo hi none n).2.2=1:=by
 refine⟨?_,?_,rfl⟩
 . cases lo with
   |none=>simp[sliceBounds,HT.sIx]
   | some i=>
     simp only[sliceBounds,HT.sIx,Option.getD_none,show(1:Int)>0 by decide,if_true]
     by_cases h:i<0
     . simp only[h,if_true]<;>omega
     . simp only[h,if_false]<;>omega
 cases hi with
 |none=>simp[sliceBounds,HT.sIx]
 | some i=>
   simp only[sliceBounds,HT.sIx,Option.getD_none,show(1:Int)>0 by decide,if_true]
   by_cases h:i<0
   . simp only[h,if_true]<;>omega
   . simp only[h,if_false]<;>omega
theorem B3h(its:List Value)(lo hi:Option Int):slicePick its.toArray lo hi none=((its.drop (HT.sIx its.length 0 lo)).take (HT.sIx its.length its.length hi-HT.sIx its.length 0 lo)).toArray:=by
 obtain⟨h1,h2,h3⟩:=B7f lo hi its.toArray.size
 unfold slicePick
 rw[h1,h2,h3]
 simp only[sliceRange_one,pick_run,List.size_toArray]<;>rfl
noncomputable def J8e (K:PySem.W.Frag):V ->Option Int ->Option Int ->Hp ->VK ->Prop:=fun x lo hi H Q=>∃a xs,x= .ref a/\SqL K H a xs/\∀p,H p=none ->Q (.ref p) (upd H p (.lst (A4b xs lo hi)))
theorem A8b:SlR X (J8e X.K):=by
 intro pins s σ H x v vl vu lo hi sl Q I rx hs pl pu h
 obtain⟨a,xs,rfl,hx,q⟩:=h
 cases rx
 obtain⟨its,r,ht,hz⟩:=I.list hx
 have hlen:=r.length
 refine⟨"list",_,slot_list_getitem.lookup,ht.isList.typeIs,?_⟩
 refine wpAny_getItem_list_slice ht.isList hs pl pu .none (by simp) ?_ (by rw[List.size_toArray]<;>omega)
 rw[B3h, <-hlen]
 refine⟨.ref s.heap.objs.size,_,I.laid (t':=s.toks) (o:= .lst (A4b xs lo hi)) (fun b ob q=>Heap.get?_push_of_some _ q) (Nat.le_refl _) ?_,rfl,q _ (I.hok.fresh (Nat.le_refl _))⟩
 exact⟨Nat.le_trans (B9e xs lo hi) hz,_,0,(r.drop (HT.sIx xs.length 0 lo)).take (HT.sIx xs.length xs.length hi-HT.sIx xs.length 0 lo),Heap.get?_push_size _ rfl⟩
noncomputable def A7s:V ->Bool
 | .non=>true
 | .bl _=>true
 | .int _=>true
 | .str _=>true
 |_=>false
noncomputable def eqV:V ->V ->Bool
 | .non,.non=>true
 | .bl a,.bl b=>a==b
 | .bl a,.int b=>(if a then 1 else 0)==b
 | .int a,.bl b=>a==(if b then 1 else 0)
 | .int a,.int b=>a==b
 | .str a,.str b=>a==b
 |_,_=>false
theorem G8f{A:Around}{s:Shared}{y x:V}{u v:Value}(ry:U4 y u)(rx:U4 x v)(fy:A7s y=true)(fx:A7s x=true):SeqAt.EqAt A s u v (eqV y x):=by
 cases y with
 | non=>
   cases ry
   cases x with
   |non=>cases rx;exact SeqAt.EqAt.same _
   |bl b=>cases rx;exact SeqAt.EqAt.none_bool b
   |int b=>obtain⟨t,rfl⟩:=rx;exact SeqAt.EqAt.none_int b t
   |str b=>obtain⟨t,rfl⟩:=rx;exact SeqAt.EqAt.none_str b t
   |_=>exact absurd (show false=true from fx) Bool.false_ne_true
 | bl a=>
   cases ry
   cases x with
   |non=>cases rx;exact SeqAt.EqAt.bool_none a
   |bl b=>cases rx;exact SeqAt.EqAt.bool_bool a b
   |int b=>obtain⟨t,rfl⟩:=rx;exact SeqAt.EqAt.bool_int a b t
   |str b=>obtain⟨t,rfl⟩:=rx;exact SeqAt.EqAt.bool_str a b t
   |_=>exact absurd (show false=true from fx) Bool.false_ne_true
 | int a=>
   obtain⟨t',rfl⟩:=ry
   cases x with
   |non=>cases rx;exact SeqAt.EqAt.int_none a t'
   |bl b=>cases rx;exact SeqAt.EqAt.int_bool a t' b
   |int b=>obtain⟨t,rfl⟩:=rx;exact SeqAt.EqAt.int_int a t' b t
   |str b=>obtain⟨t,rfl⟩:=rx;exact SeqAt.EqAt.int_str a t' b t
   |_=>exact absurd (show false=true from fx) Bool.false_ne_true
 | str a=>
   obtain⟨t',rfl⟩:=ry
   cases x with
   |non=>cases rx;exact SeqAt.EqAt.str_none a t'
   |bl b=>cases rx;exact SeqAt.EqAt.str_bool a t' b
   |int b=>obtain⟨t,rfl⟩:=rx;exact SeqAt.EqAt.str_int a t' b t
   |str b=>obtain⟨t,rfl⟩:=rx;exact SeqAt.EqAt.str_str a t' b t
   |_=>exact absurd (show false=true from fx) Bool.false_ne_true
 |_=>exact absurd (show false=true from fy) Bool.false_ne_true
noncomputable def eqU (x:V) (u:Value):Bool:=match u with
 | .none=>eqV .non x
 | .bool b=>eqV (.bl b) x
 | .int i _=>eqV (.int i) x
 | .str z _=>eqV (.str z) x
 |_=>false
theorem D3b{x y:V}{u:Value}(r:U4 y u)(f:A7s y=true):eqU x u=eqV y x:=by
 cases y with
 |non=>cases r;rfl
 |bl b=>cases r;rfl
 |int i=>obtain⟨t,rfl⟩:=r;rfl
 |str z=>obtain⟨t,rfl⟩:=r;rfl
 |_=>exact absurd (show false=true from f) Bool.false_ne_true
theorem A7h{x:V}:∀{xs:List V} {us:List Value},J0 xs us ->xs.all A7s=true ->us.any (eqU x)=xs.any fun y=>eqV y x
 |_,_,.nil,_=>rfl
 | y::xs,u::us,.cons r t,f=>by
   rw[List.all_cons,Bool.and_eq_true] at f
   rw[List.any_cons,List.any_cons,D3b r f.1,A7h t f.2]
theorem A4v{A:Around}{s:Shared}{x:V}{v:Value}(rx:U4 x v)(fx:A7s x=true):∀{xs:List V} {us:List Value},J0 xs us ->xs.all A7s=true ->∀u∈us,SeqAt.EqAt A s u v (eqU x u)
 |_,_,.nil,_=>fun u hu=>by cases hu
 | y::xs,u::us,.cons r t,f=>fun u' hu=>by
   rw[List.all_cons,Bool.and_eq_true] at f
   rcases List.mem_cons.mp hu with rfl|hu
   . rw[D3b r f.1];exact G8f r rx f.1 fx
   . exact A4v rx fx t f.2 u' hu
noncomputable def inV (x:V) (xs:List V):Bool:=xs.any fun y=>eqV y x
noncomputable def rIn (K:PySem.W.Frag) (neg:Bool):R2:=fun x y H Q=>∃p xs,y= .ref p/\(SqL K H p xs\/SqT K H p xs)/\A7s x=true/\xs.all A7s=true/\Q (.bl (if neg then !inV x xs else inV x xs)) H
theorem A0t:OpR X (compareOp .In) (rIn X.K false):=by
 intro pins s σ H x y v u Q I rx ry h
 obtain⟨p,xs,rfl,hq,fx,fs,q⟩:=h
 cases ry
 rcases hq with hq|hq
 . obtain⟨its,r,pl,hz⟩:=I.list hq
   refine SeqAt.in_listAt (eqU x) pl.isList (fun w hw=>A4v rx fx r fs w (by simpa using hw)) ⟨.bl _,H,I,rfl,?_⟩
   rw[show its.toArray.any (eqU x)=its.any (eqU x) by simp,A7h r fs]
   exact q
 obtain⟨its,r,pl,hz⟩:=I.tuple hq
 refine SeqAt.in_tupleAt (eqU x) pl (fun w hw=>A4v rx fx r fs w (by simpa using hw)) ⟨.bl _,H,I,rfl,?_⟩
 rw[show its.toArray.any (eqU x)=its.any (eqU x) by simp,A7h r fs]
 exact q
theorem B5p:OpR X (compareOp .NotIn) (rIn X.K true):=by
 intro pins s σ H x y v u Q I rx ry h
 obtain⟨p,xs,rfl,hq,fx,fs,q⟩:=h
 cases ry
 rcases hq with hq|hq
 . obtain⟨its,r,pl,hz⟩:=I.list hq
   refine SeqAt.notIn_listAt (eqU x) pl.isList (fun w hw=>A4v rx fx r fs w (by simpa using hw)) ⟨.bl _,H,I,rfl,?_⟩
   rw[show its.toArray.any (eqU x)=its.any (eqU x) by simp,A7h r fs]
   exact q
 obtain⟨its,r,pl,hz⟩:=I.tuple hq
 refine SeqAt.notIn_tupleAt (eqU x) pl (fun w hw=>A4v rx fx r fs w (by simpa using hw)) ⟨.bl _,H,I,rfl,?_⟩
 rw[show its.toArray.any (eqU x)=its.any (eqU x) by simp,A7h r fs]
 exact q
theorem Y3:A3z X (.builtin "len") (fun xs H Q=>∃p ys,xs=[.ref p]/\(SqL X.K H p ys\/SqT X.K H p ys)/\Q (.int ys.length) H):=by
 intro pins s σ H xs us Q I r h
 obtain⟨p,ys,rfl,hq,q⟩:=h
 obtain⟨u,rfl,rx⟩:=B4v r
 cases rx
 have hn:=A6j
 rcases hq with hq|hq
 . obtain⟨its,r',pl,hz⟩:=I.list hq
   have hlen:=r'.length
   exact Calls.call_len_list pl.isList (by simp only[List.size_toArray]<;>omega) ⟨.int ys.length,H,I.tok _,⟨s.toks+1,by rw[List.size_toArray,hlen]⟩,q⟩
 obtain⟨its,r',pl,hz⟩:=I.tuple hq
 have hlen:=r'.length
 exact len_tuple pl (by simp only[List.size_toArray]<;>omega) ⟨.int ys.length,H,I.tok _,⟨s.toks+1,by rw[List.size_toArray,hlen]⟩,q⟩
theorem Z1:A3z X (.builtin "len") (fun xs H Q=>∃z,xs=[.str z]/\z.length<=sizeLine/\Q (.int z.length) H):=by
 intro pins s σ H xs us Q I r h
 obtain⟨z,rfl,hz,q⟩:=h
 obtain⟨u,rfl,t,rfl⟩:=B4v r
 have hn:=A6j
 exact len_str (by omega) ⟨.int z.length,H,I.tok _,⟨_,rfl⟩,q⟩
theorem A7r:A3z X (.type "list") (fun xs H Q=>∃p ys,xs=[.ref p]/\(SqL X.K H p ys\/SqT X.K H p ys)/\∀l,H l=none ->Q (.ref l) (upd H l (.lst ys))):=by
 intro pins s σ H xs us Q I r h
 obtain⟨p,ys,rfl,hq,q⟩:=h
 obtain⟨u,rfl,rx⟩:=B4v r
 cases rx
 have fin:∀(its:List Value),J0 ys its ->ys.length<=sizeLine ->∀(h':Heap) (c':Nat),(∀b o',s.heap.get? b=some o' ->h'.get? b=some o') ->
     h'.get? s.heap.objs.size=some {cls:= .type "list",dict:=none,data:= .seq its.toArray c',slots:= #[]} ->EP X pins σ Q (.ref s.heap.objs.size) {s with heap:=h'}:=fun its r' hz h' c' kp e=>
   ⟨.ref s.heap.objs.size,_,I.laid (t':=s.toks) kp (Nat.le_refl _) (show Z9 X.prog X.w _ h' _ (.lst ys) from⟨hz,its,c',r',e⟩),rfl,q _ (I.hok.fresh (Nat.le_refl _))⟩
 rcases hq with hq|hq
 . obtain⟨its,r',pl,hz⟩:=I.list hq
   have hlen:=r'.length
   obtain⟨o,ho,hc,n,hd⟩:=pl.isList
   exact call_list_seq p (.inl rfl) ho hc hd (fun h' c' kp e=>fin its r' hz h' c' kp e) (by simp only[List.size_toArray]<;>omega)
 obtain⟨its,r',pl,hz⟩:=I.tuple hq
 have hlen:=r'.length
 obtain⟨o,ho,hc,n,hd⟩:=pl
 exact call_list_seq p (.inr rfl) ho hc hd (fun h' c' kp e=>fin its r' hz h' c' kp e) (by simp only[List.size_toArray]<;>omega)
noncomputable def tyV (K:PySem.W.Frag) (T:String) (x:V) (H:Hp):Prop:=match x with
 | .str _=>T="str"
 | .int _=>T="int"
 | .ref p=>(T="list"/\∃xs,SqL K H p xs)\/(T="tuple"/\∃o,K.lookup p=some o/\o.cls= .type "tuple"/\o.dict=none)\/
     (T="dict"/\((∃kvs,H p=some (.dK kvs))\/∃kvs,H p=some (.dT kvs)))\/(T="set"/\∃S n,H p=some (.set S n))
 |_=>False
theorem C2r{pins:List (Addr×Obj)}{σ:St}{H:Hp}{s:Shared}{T:String}{x:V}{v:Value}(I:Inv X pins σ H s)(r:U4 x v)(ty:tyV X.K T x H):
   s.TypeIs v T/\∀a,v= .ref a ->∃ob,s.heap.get? a=some ob/\ob.dict=none:=by
 cases x with
 | str z=>
   obtain⟨t,rfl⟩:=r
   cases(show T="str" from ty)
   exact⟨typeIs_str s z t,fun _ e=>nomatch e⟩
 | int i=>
   obtain⟨t,rfl⟩:=r
   cases(show T="int" from ty)
   exact⟨typeIs_int s i t,fun _ e=>nomatch e⟩
 | ref p =>
   cases r
   rcases ty with⟨rfl,xs,hq⟩|⟨rfl,o,hk,hc,hd⟩|⟨rfl,hk⟩|⟨rfl,S,n,hk⟩
   . obtain⟨its,_,pl,_⟩:=I.list hq
     refine⟨pl.isList.typeIs,fun a e=>?_⟩
     cases e
     obtain⟨o,n,e,c,hd,_⟩:=pl
     exact⟨o,e,hd⟩
   . refine⟨⟨o,I.kIn p o hk,hc⟩,fun a e=>?_⟩
     cases e
     exact⟨o,I.kIn _ o hk,hd⟩
   . have z:∃o,s.heap.get? p=some o/\o.ExactDict:=by
       rcases hk with⟨kvs,hk⟩|⟨kvs,hk⟩
       . obtain⟨_,_,_,_,o,_,_,e,ex,_⟩:=I.hok p _ hk
         exact⟨o,e,ex⟩
       . obtain⟨_,_,_,_,o,_,_,e,ex,_⟩:=I.hok p _ hk
         exact⟨o,e,ex⟩
     obtain⟨o,e,ex⟩:=z
     refine⟨⟨o,e,ex.1⟩,fun a e2=>?_⟩
     cases e2
     exact⟨o,e,ex.2.1⟩
   . obtain⟨o,_,_,_,e,ex,_⟩:=I.hok p _ hk
     refine⟨⟨o,e,ex.1⟩,fun a e2=>?_⟩
     cases e2
     exact⟨o,e,ex.2.1⟩
 |_=>exact False.elim ty
noncomputable def J6v (K:PySem.W.Frag) (T:String) (r:V ->List V ->Hp ->VK ->Prop) (to:TE):TE:=fun σ H Q=>to σ H fun x H1=>tyV K T x H1/\r x [] H1 Q
noncomputable def tBM (K:PySem.W.Frag) (T:String) (r:V ->List V ->Hp ->VK ->Prop) (to:TE) (t:TA):TE:=fun σ H Q=>to σ H fun x H1=>tyV K T x H1/\t σ H1 fun xs H2=>r x xs H2 Q
variable{o e:Expr}{es:List Expr}{to:TE}{t:TA}{name:Str}{apos cpos:Pos}{T id:String}{r:V ->List V ->Hp ->VK ->Prop}
theorem D3z(pa:PlainAttrs T)(slot:Slot T name id)(hty:typeOf (.builtin id)=pure (.type "method_descriptor"))(hm:MtR X id r)(ho:PE X o to)
   (hbase:attributeBase o name X.env (eval o X.env)=eval o X.env:=by rfl) (hline:(apos.endLine==cpos.line)=true:=by rfl):PE X (.Call (.Attribute o name apos) [] [] cpos) (J6v X.K T r to):=by
 intro pins s σ H Q I h
 refine wpAny_Call_method0_late hbase hline (thn (ho pins s σ H _ I h) fun v s1 hh_=>?_)
 obtain⟨x,H1,I1,r1,ty,q1⟩:=hh_
 obtain⟨h1,h2⟩:=C2r I1 r1 ty
 exact⟨T,id,pa,slot,hty,h1,h2,Calls.callWith_builtin rfl (PySem.evalArgs_none (hm pins s1 σ H1 x [] v [] Q I1 r1 .nil q1))⟩
theorem A1q(pa:PlainAttrs T)(slot:Slot T name id)(hty:typeOf (.builtin id)=pure (.type "method_descriptor"))(hm:MtR X id r)(ho:PE X o to)(ha:PA X (e::es) t)
   (hbase:attributeBase o name X.env (eval o X.env)=eval o X.env:=by rfl)
   (hfew:((backTo cpos (starEach (e::es) X.env)).all (fun x=> !x.1)&&(backToKw cpos (keywordEach [] X.env)).all (fun x=>x.1.isSome)
     &&decide ((e::es).length+([]:List Keyword).length+(if([]:List Keyword).isEmpty then 0 else 1)<30))=true:=by rfl)
   (hline:(apos.endLine==cpos.line)=true:=by rfl) (hs:starEach (e::es) X.env=(false,eval e X.env)::starEach es X.env:=by rfl) (hplain:(backTo cpos (starEach es X.env)).any (·.1)=false:=by rfl):
   PE X (.Call (.Attribute o name apos) (e::es) [] cpos) (tBM X.K T r to t):=by
 intro pins s σ H Q I h
 refine wpAny_Call_method_late hbase hfew hline rfl (thn (ho pins s σ H _ I h) fun v s1 hh_=>?_)
 obtain⟨x,H1,I1,r1,ty,q1⟩:=hh_
 obtain⟨h1,h2⟩:=C2r I1 r1 ty
 refine⟨T,id,pa,slot,hty,h1,h2,?_⟩
 have hA:=ha cpos pins s1 σ H1 _ I1 q1
 rw[hs] at hA ⊢
 refine Calls.callWith_builtin (by show(false||(backTo cpos (starEach es X.env)).any (·.1))=false;rw[hplain]<;>rfl) (Calls.evalArgs_plain ?_)
 exact thn hA fun us s2 ⟨vs,H2,I2,r2,q2⟩=>hm pins s2 σ H2 x vs v us Q I2 r1 r2 q2
end
noncomputable def MtM (X:Cx) (id:String) (r:V ->List V ->Hp ->VK ->Prop):Prop:=
 ∀ (pins:List (Addr×Obj)) (s:Shared) (σ:St) (H:Hp) (x:V) (xs:List V) (v:Value) (us:List Value) (Q:VK),Inv X pins σ H s ->U4 x v ->J0 xs us ->r x xs H Q ->
   wpAny (model X.prog X.w) X.A (call (.builtin id) (v::us)) (EP X pins σ Q) X.xe s
theorem J0.one{x:V}{us:List Value}(h:J0 [x] us):∃u,us=[u]/\U4 x u:=by
 cases h with
 |cons r t=>cases t;exact⟨_,rfl,r⟩
theorem J0.two{x y:V}{us:List Value}(h:J0 [x,y] us):∃u v,us=[u,v]/\U4 x u/\U4 y v:=by
 cases h with
 | cons r t=>
   cases t with
   |cons q z=>cases z;exact⟨_,_,rfl,r,q⟩
theorem J0.zero:∀{us:List Value},J0 [] us ->us=[]
 |_,.nil=>rfl
section
variable{X:Cx}{pins:List (Addr×Obj)}{σ:St}{H:Hp}{s:Shared}{l b:Addr}{xs ys zs:List V}
theorem Inv.lset{its its':List Value}{n:Nat}{f:Array Value ->Array Value}{t':Nat}(I:Inv X pins σ H s)(hH:H l=some (.lst xs))
   (e:s.heap.get? l=some {cls:= .type "list",data:= .seq its.toArray n}) (hf:f its.toArray=its'.toArray) (hv:J0 ys its') (hz:ys.length<=sizeLine):
   Inv X pins σ (upd H l (.lst ys)) {s with heap:=s.heap.update l (Obj.mapSeq f),toks:=t'}:=by
 have q:=PySem.IsL.update e f
 rw[hf] at q
 refine I.write (x:=l) (e:=l) (by rw[hH];exact trivial) (.inl rfl) (fun b' u hb hu=>(Heap.get?_update_other s.heap (Obj.mapSeq f) (Ne.symm hb)).trans hu) ⟨_,q⟩ ?_
 exact⟨hz,its',_,hv,q⟩
theorem Inv.lnew{its:List Value}{t':Nat}(I:Inv X pins σ H s)(hv:J0 ys its)(hz:ys.length<=sizeLine):
   Inv X pins σ (upd H s.heap.objs.size (.lst ys)) {s with heap:=s.heap.push {cls:= .type "list",data:= .seq its.toArray},toks:=t'}:=
 I.laid (fun _ _ q=>Heap.get?_push_of_some _ q) (Nat.le_refl _) ⟨hz,its,0,hv,Heap.get?_push_size _ rfl⟩
theorem Inv.fresh(I:Inv X pins σ H s):H s.heap.objs.size=none:=I.hok.fresh (Nat.le_refl _)
theorem Inv.lstM(I:Inv X pins σ H s)(hH:H l=some (.lst xs)):xs.length<=sizeLine/\∃(its:List Value) (n:Nat),J0 xs its/\xs.length=its.length/\s.heap.get? l=some {cls:= .type "list",data:= .seq its.toArray n}:=by
 obtain⟨z,its,n,r,e⟩:=I.hok l _ hH
 exact⟨z,its,n,r,r.length,e⟩
end
section
variable{X:Cx}
noncomputable def G1p:V ->List V ->Hp ->VK ->Prop:=fun x vs H Q=>∃l xs y,x= .ref l/\vs=[y]/\H l=some (.lst xs)/\xs.length<sizeLine/\Q .non (upd H l (.lst (xs++ [y])))
theorem A2x:MtM X "list.append" G1p:=by
 intro pins s σ H x vs v us Q I rx rv h
 obtain⟨l,xs,y,rfl,rfl,hH,hz,q⟩:=h
 cases rx
 obtain⟨u,rfl,ru⟩:=rv.one
 obtain⟨z,its,n,r,hl,e⟩:=I.lstM hH
 refine call_meets F.slot_list_append ⟨_,e,rfl⟩ F.entry_list_append (F.args_list_append_2 _ _) (PySem.list_append l its.toArray n u (by rw[List.size_toArray];omega)) ⟨e,?_⟩
 refine⟨.non,_,I.lset (its':=its++ [u]) hH e (by simp) (r.append (.cons ru .nil)) ?_,rfl,q⟩
 rw[List.length_append,List.length_singleton]
 omega
noncomputable def J8a:R2:=fun x y H Q=>∃l b xs zs,x= .ref l/\y= .ref b/\H l=some (.lst xs)/\H b=some (.lst zs)/\xs.length+zs.length<=sizeLine/\∀p,H p=none ->Q (.ref p) (upd H p (.lst (xs++zs)))
theorem Z5:OpR X (binaryOp .Add) J8a:=by
 intro pins s σ H x y v u Q I rx ry h
 obtain⟨l,b,xs,zs,rfl,rfl,hH,hB,hz,q⟩:=h
 cases rx
 cases ry
 obtain⟨z,its,n,r,hl,e⟩:=I.lstM hH
 obtain⟨z2,its2,n2,r2,hl2,e2⟩:=I.lstM hB
 refine PySem.P.add_list e e2 ?_ (by rw[List.size_toArray,List.size_toArray];omega)
 have ea:its.toArray++its2.toArray=(its++its2).toArray:=by simp
 rw[ea]
 exact⟨.ref _,_,I.lnew (t':=s.toks) (r.append r2) (by rw[List.length_append];omega),rfl,q _ I.fresh⟩
theorem D9s{α:Type}(xs:List α)(k:Nat):(List.replicate k xs).flatten.length=k*xs.length:=by
 induction k with
 |zero=>simp
 |succ k ih=>rw[List.replicate_succ,List.flatten_cons,List.length_append,ih,Nat.succ_mul,Nat.add_comm]
end
section
variable{prog:Program}{w:World}{A:Around}{E:Value ->Shared ->Prop}{s:Shared}
end
section
variable{X:Cx}
end
end L2
namespace Att
open PySem PySem.W PySem.Calls PyProof.Rows
theorem B0j{P:Params}{h:Heap}:∀(ns:List Int) (vs:List Value),WellAll P h vs (ns.map WData.int) ->IntsAre vs ns:=by
 intro ns
 induction ns with
 | nil=>
   intro vs w
   rw[List.map_nil] at w
   cases w
   exact .nil
 | cons n ns ih=>
   intro vs w
   rw[List.map_cons] at w
   cases w with
   | cons a b=>
     cases a
     exact .cons _ _ (ih _ b)
theorem C6t{l:OpenLaw}{n:Nat}(hn:l.most=some n){P:Params}{h:Heap}{args:List WData}{vals:List Value}
   (hpre:l.row.toRowW.claim.pre args=true) (hwl:WellAll P h vals args):
   ∃a vs ns,vals=[Value.ref a]/\args=[WData.list (ns.map WData.int)]/\h.get? a=some {cls:= .type "list",data:= .seq vs.toArray}/\IntsAre vs ns/\ns.length<=n:=by
 have hsh:WShape.hasAll [] args [.list .int]=true:=(pre_splitW hpre).1
 have hc:l.pre.holds [] {args:=args}=true:=(pre_splitW hpre).2
 obtain⟨d,r,rfl,h1,h2⟩:=hasAllW_cons hsh
 obtain rfl:=hasAllW_nil h2
 obtain⟨xs,rfl,h3⟩:=hasW_list h1
 obtain⟨ns,rfl⟩:=items_int h3
 have hlen:ns.length<=n:=by
   unfold OpenLaw.pre at hc
   have h4:(WTm.not (.lt (.lit (.int (n:Int))) (.len (.arg 0)))).holds [] {args:=[.list (ns.map .int)]}=true:=by
     have h4:=(holds_andW hc).1
     rw[hn] at h4
     exact h4
   have h5:=condW_of h4 (w_not (w_lt w_lit (w_len_list (w_arg rfl))))
   rw[List.length_map] at h5
   refine Nat.le_of_not_lt fun q=>?_
   have q':(n:Int)<((ns.length:Nat):Int):=by omega
   first
     |(rw[decide_eq_true q'] at h5;exact absurd h5 (by decide))
     |(simp at h5;omega)
 cases hwl with
 | cons w1 w2=>
   cases w2
   cases w1 with
   |list ho hall=>exact⟨_,_,ns,rfl,rfl,ho,B0j ns _ hall,hlen⟩
theorem C6z(l:OpenLaw)(args:List WData):l.row.toRowW.claim.post args (.bool true) args=true:=
 postW_of (r:=l.row.toRowW) (X:=(true==true))
   (show WShape.has [] (.bool true) .bool=true by first|rfl|decide|simp[WShape.has,WShape.arms,WShape.armsAll])
   (show(WTm.eq .res (.lit (.bool true))).value [] {args:=args,res:=some (.bool true),after:=args}=some (.bool (true==true)) from w_eq_bool (w_res rfl) w_lit) rfl
theorem attach_call{l:OpenLaw}{n:Nat}{q:Program}{loose:List Str}{XP:(Str ->Option Value) ->Heap ->Prop}{YP:World ->Heap ->Prop}{d:DefRec}
   (hn:l.most=some n) (hdf:d.params.defaults=[])
   (call:∀(w:World) (s₀ s₁:Shared) (mg mb:Str ->Option Value) (fa:Addr) (o:Obj) (pm cd doc:Value) (a:Addr) (vs:List Value) (ns:List Int),
     Ground q loose [] XP w s₀ mg mb s₁.heap ->YP w s₁.heap ->
     s₁.heap.get? fa=some o ->o.data= .func (docDef d.name d.params d.body d.scope pm cd doc) ->s₁.heap.CodeRec cd d.name ->mg d.name=some (.ref fa) ->
     s₁.heap.get? a=some {cls:= .type "list",data:= .seq vs.toArray} ->IntsAre vs ns ->ns.length<=n ->s₁.gens= #[] ->
     codeAny (model l.prog w) callerA (.call (.ref fa) ⟨[.ref a],[]⟩) (fun r s'=>r= .ok (.ret (.bool true))/\OldK s₁.heap s'.heap/\s'.os=s₁.os/\AllBare s'.gens) s₁):
   WalkO q loose XP YP l.row.toRowW d [] (fun f vs=>PySem.call f vs):=by
 intro w s₀ s₁ mg mb G Y fa o pm cd doc dV kV ho hd hcd hD hmg hg args vals as hpre hlay hrd hwl hlo
 obtain rfl:dV= .none:=Dflts.none hD hdf
 obtain rfl:kV= .none:=Dflts.noKw hD
 obtain⟨a,vs,ns,rfl,rfl,hobj,hints,hlen⟩:=C6t hn hpre hwl
 refine enter_call (codeAny_mono (call w s₀ s₁ mg mb fa o pm cd doc a vs ns G Y ho (fd_plain hd) hcd hmg hobj hints hlen hg) fun r s' hq=>?_)
 obtain⟨rfl,h2,h3,h4⟩:=hq
 exact⟨.inl ⟨.bool true,.bool true,[],rfl,fun _=>rfl,.bool true,C6z l _,fun _=>⟨List.Pairwise.nil,fun _ hm=>(nomatch hm)⟩⟩,h2,h3,h4⟩
section
variable{prog:Program}{w:World}{A:Around}{E:Value ->Shared ->Prop}{s:Shared}{K:Frag}
end
end Att
namespace L2
open PySem PySem.Spec PyProof.Rows
theorem B4w:∀{vs:List Value} {ns:List Int},IntsAre vs ns ->J0 (ns.map V.int) vs
 |_,_,.nil=> .nil
 |_,_,.cons n t h=> .cons ⟨t,rfl⟩ (B4w h)
noncomputable def G8g (H:Hp):Prop:=∀b,H b=none\/∃o xs,H b=some (.frz o (.lst xs))
theorem D0s{P:Program}{w:World}{K:PySem.W.Frag}{mg mb:Str ->Option Value}{CX:CXT}{k:Nat}{fa a:Addr}{fd:FuncData}{x:Str}{sp:Sp}{s₁:Shared}{vs:List Value}{ns:List Int}
   (KX:K.In s₁.heap) (hns:s₁.heap.Ns mainGlobals mg) (hb:s₁.heap.Ns builtinsNs mb) (hbb:∀x:Str,x≠"__name__" ->mb x=bootBuiltins x) (hlim:s₁.heap.NoLimit) (hg:s₁.gens= #[])
   (ha:s₁.heap.get? a=some {cls:= .type "list",data:= .seq vs.toArray}) (hi:IntsAre vs ns) (hl:ns.length<=sizeLine) (hr:Y9 k callerA)
   (F:∀base:Heap,K.In base ->base.Ns mainGlobals mg ->A9 P w K mg base CX k fa fd [x] sp) (hbind:∀(s:Shared) (u:Value),BindsTo s fd ⟨[u],[]⟩ [(x,u)])
   (hsp:∀H:Hp,G8g H ->SqL K H a (ns.map V.int) ->sp [.ref a] H (fun v _=>v= .bl true) fun _ _ _=>False)
   (hCX:∀H e s',CX [] H s₁ (fun _ _ _=>False) e s' ->False):
   codeAny (model P w) callerA (.call (.ref fa) ⟨[.ref a],[]⟩) (fun r s'=>r= .ok (.ret (.bool true))/\OldK s₁.heap s'.heap/\s'.os=s₁.os/\AllBare s'.gens) s₁:=by
 have rv:=B4w hi
 have lenV:=hi.length
 have core :∀H:Hp,G8g H ->SqL K H a (ns.map V.int) ->HOk P w H s₁.heap ->(∀b,H b≠none ->b=a) ->(H a≠none ->K.lookup a=none) ->
     codeAny (model P w) callerA (.call (.ref fa) ⟨[.ref a],[]⟩) (fun r s'=>r= .ok (.ret (.bool true))/\OldK s₁.heap s'.heap/\s'.os=s₁.os/\AllBare s'.gens) s₁:=by
   intro H hO hS hok hA hK
   have base_of:∀{b:Addr} {o:Obj},s₁.heap.get? b=some o ->H b=none ->(B6k s₁.heap H).get? b=some o:=fun e n=>D1r e n
   have noA:∀{b:Addr} {o:Obj} {es:Array DictEntry} {ep:Nat},s₁.heap.get? b=some o ->o.data= .dict es ep ->H b=none:=fun{b o es ep} e d=>by
     cases q:H b with
     |none=>rfl
     | some u=>
       have e':b=a:=hA b (by rw[q];simp)
       subst e'
       rw[ha] at e;cases e
       have d':Data.seq vs.toArray _=Data.dict es ep:=d
       cases d'
   have nsK:∀{b:Addr} {m:Str ->Option Value},s₁.heap.Ns b m ->(B6k s₁.heap H).Ns b m:=fun{b m} ⟨o,es,ep,e,d,r⟩=>⟨o,es,ep,base_of e (noA e d),d,r⟩
   have hKb:K.In (B6k s₁.heap H):=fun b o e=>base_of (KX b o e) (by
     cases q:H b with
     |none=>rfl
     | some u=>
       have e':b=a:=hA b (by rw[q];simp)
       subst e'
       rw[hK (by rw[q];simp)] at e;cases e)
   have hM:Mod K mg (B6k s₁.heap H):=⟨hKb,nsK hns,⟨mb,nsK hb,hbb⟩,let⟨mc,h1,h2⟩:=hlim;⟨mc,nsK h1,h2⟩⟩
   have e0:B9x P w K mg (B6k s₁.heap H) callerA [] s₁ H:=⟨rfl,hM,fun b o e=>G0f e,Nat.le_of_eq (C8h _ _),trivial,fun b hb=>absurd (show b∈([]:List Addr) from hb) (by simp),hok,.of_eq hg⟩
   refine codeAny_mono ((F _ hKb (nsK hns)).run callerA [] s₁ H ⟨[.ref a],[]⟩ [.ref a] [.ref a] _ _ hr e0 (hbind s₁ (.ref a)) (.cons rfl .nil) (hsp H hO hS)) fun r s' h=>?_
   cases r with
   |error e=>exact(hCX H e s' h).elim
   | ok fl =>
     cases fl with
     |next=>exact False.elim h
     |brk=>exact False.elim h
     |cont=>exact False.elim h
     | ret u=>
       obtain⟨v,H',os,bare,un,hok',r',q⟩:=h
       have q':v= .bl true:=q
       subst q'
       obtain rfl:u=Value.bool true:=r'
       refine⟨rfl,OldK.of_keep fun b o e=>?_,os,bare⟩
       cases q:H b with
       |none=>exact un.keep b o e q (by intro z;exact absurd (show b∈([]:List Addr) from z) (by simp)) (by simp)
       | some u=>
         rcases hO b with z|⟨ob,xs,z⟩
         . rw[q] at z;cases z
         . have z2:=un.frzs b ob _ z
           obtain⟨e1,_⟩:=hok b _ z
           obtain⟨e2,_⟩:=hok' b _ z2
           rw[e] at e1;cases e1
           exact e2
 cases hk:K.lookup a with
 | some o=>
   have e:=KX a o hk
   rw[ha] at e
   cases e
   refine core (fun _=>none) (fun _=> .inl rfl) (.inr ⟨_,vs.toArray,_,hk,rfl,rfl,rfl,by rw[List.size_toArray,lenV];exact hl,by simpa using rv⟩) (fun b u z=>by have z':(none:Option HO)=some u:=z;cases z') (fun b z=>absurd rfl z) fun z=>absurd rfl z
 | none=>
   refine core (fun b=>if b=a then some (.frz {cls:= .type "list",data:= .seq vs.toArray} (.lst (ns.map V.int))) else none) (fun b=>?_) (.inl (.inr ⟨{cls:= .type "list",data:= .seq vs.toArray},if_pos rfl⟩)) (fun b u z=>?_) (fun b z=>?_) fun _=>hk
   . by_cases hb:b=a
     . exact .inr ⟨_,_,if_pos hb⟩
     . exact .inl (if_neg hb)
   . by_cases hb:b=a
     . have z':=(if_pos hb).symm.trans z
       cases z'
       subst hb
       exact⟨ha,by rw[List.length_map];exact hl,vs,_,rv,ha⟩
     . have z':=(if_neg hb).symm.trans z
       cases z'
   . by_cases hb:b=a
     . exact hb
     . exact absurd (if_neg hb) z
theorem walk_of{l:PySem.W.OpenLaw}{n k:Nat}{q:Program}{loose:List Str}{XP:(Str ->Option Value) ->Heap ->Prop}{YP:World ->Heap ->Prop}{d:DefRec}{K:Params ->PySem.W.Frag}{CX:World ->CXT}{sp:World ->Sp}{x:Str}
   (hn:l.most=some n) (hn2:n<=sizeLine) (hdf:d.params.defaults=[]) (hr:Y9 k callerA)
   (hY:∀(w:World) (h:Heap),YP w h ->(K w.params).In h)
   (F:∀(w:World) (mg:Str ->Option Value) (fa:Addr) (h:Heap),(K w.params).In h ->h.Ns mainGlobals mg ->mg d.name=some (.ref fa) ->
     ∃ fd:FuncData,(∀(s:Shared) (u:Value),BindsTo s fd ⟨[u],[]⟩ [(x,u)])/\
       ∀base:Heap,(K w.params).In base ->base.Ns mainGlobals mg ->A9 l.prog w (K w.params) mg base (CX w) k fa fd [x] (sp w))
   (hsp:∀(w:World) (H:Hp) (a:Addr) (ns:List Int),ns.length<=n ->G8g H ->SqL (K w.params) H a (ns.map V.int) ->sp w [.ref a] H (fun v _=>v= .bl true) fun _ _ _=>False)
   (hCX:∀(w:World) (H:Hp) (s:Shared) (e:Value) (s':Shared),CX w [] H s (fun _ _ _=>False) e s' ->False):
   PySem.W.WalkO q loose XP YP l.row.toRowW d [] (fun f vs=>PySem.call f vs):=by
 refine Att.attach_call hn hdf fun w s₀ s₁ mg mb fa o pm cd doc a vs ns G Y ho hd hcd hmg hobj hints hlen hg=>?_
 have KX:=hY w _ Y
 obtain⟨fd,hb,hF⟩:=F w mg fa _ KX G.T.g hmg
 exact D0s KX G.T.g G.T.b G.T.builtins G.T.nolimit hg hobj hints (Nat.le_trans hlen hn2) hr hF hb (fun H hO hS=>hsp w H a ns hlen hO hS) fun H e s'=>hCX w H s₁ e s'
noncomputable def G4 (s:Stmt) (j:Nat):Stmt:=match s with
 | .ClassDef _ _ _ body _ _ _ _ _ _ _=>body.getD j (.Pass ⟨0,0,0,0⟩)
 |_=> .Pass ⟨0,0,0,0⟩
noncomputable def J9 (s:Stmt):Arguments:=match s with
 | .FunctionDef _ a _ _ _ _ _ _ _ _=>a
 |_=>{posonlyargs:=[],args:=[],vararg:=none,kwonlyargs:=[],kw_defaults:=[],kwarg:=none,defaults:=[]}
noncomputable def G8 (s:Stmt):List Stmt:=match s with
 | .FunctionDef _ _ b _ _ _ _ _ _ _=>b
 |_=>[]
noncomputable def A4 (s:Stmt):Scope:=match s with
 | .FunctionDef _ _ _ _ _ _ sc _ _ _=>sc
 |_=>{kind:= .function,names:=[],isGenerator:=false,isCoroutine:=false}
noncomputable abbrev CX0:CXT:=fun _ _ _ _ _ _=>False
noncomputable abbrev E0:XK:=fun _ _ _=>False
theorem D2d{X:Cx}:C1b CX0 X E0:=fun _ _ _ _ _ _ _ h=>h.elim
structure Fun(K:PySem.W.Frag)(x qual:Str)(st:Stmt)(f:Addr)(fd:FuncData):Prop where
 ex:∃(oc:Value) (od:Option Addr) (kV doc pm:Value) (an:Option Addr) (cdv ct:Value) (osl:Array (Option Value)),
   fd=PySem.W.fnOf x qual (J9 st) (G8 st) (A4 st) .none kV doc pm an cdv ct/\K.lookup f=some ⟨oc,od,.func fd,osl⟩/\PySem.W.codeIn K cdv qual=true
 kp:PySem.W.keepIn K (.ref f)=true
section
variable{P:Program}{w:World}{K:PySem.W.Frag}{mg:Str ->Option Value}{base:Heap}
theorem Fun.ok{x qual:Str}{st:Stmt}{f:Addr}{fd:FuncData}{N ps:List Str}{k:Nat}{sp:Sp}(F:Fun K x qual st f fd)(S:B0 N ps (A4 st))(len:∀vs H Q E,sp vs H Q E ->vs.length=ps.length)
   (hbody:∀(cdv:Value) (A:Around) (outer:List Env) (s:Shared) (H:Hp) (vs:List V) (Q:VK) (E:XK),Y9 k (A.deeper (envOfC qual (A4 st) s.heap.objs.size f cdv)) ->sp vs H Q E ->
     ∃t,PSs (A0v CX0 P w K mg base N qual (A4 st) f cdv A outer s H E).nox (G8 st) t/\t {nx:=fun _ H'=>Q .non H',rt:=Q} (A2d N vs) H):A9 P w K mg base CX0 (k+1) f fd ps sp:=by
 obtain⟨oc,od,kV,doc,pm,an,cdv,ct,osl,rfl,lk,hcd⟩:=F.ex
 refine C9e lk hcd S len fun A outer s H vs Q E hr hsp=>?_
 obtain⟨t,h,q⟩:=hbody cdv A outer s H vs Q E hr hsp
 exact⟨t,h.nox,q⟩
theorem Fun.binds{x qual:Str}{st:Stmt}{f:Addr}{fd:FuncData}{ps:List Str}(F:Fun K x qual st f fd)
   (h:∀(kV doc pm:Value) (an:Option Addr) (cdv ct:Value) (us:List Value),us.length=ps.length ->bindArgs (PySem.W.fnOf x qual (J9 st) (G8 st) (A4 st) .none kV doc pm an cdv ct) ⟨us,[]⟩=pure (ps.zip us)):Binds K fd ps []:=by
 obtain⟨oc,od,kV,doc,pm,an,cdv,ct,osl,rfl,lk,hcd⟩:=F.ex
 exact .all (h kV doc pm an cdv ct)
theorem A1v{x qual:Str}{st:Stmt}{f:Addr}{oc:Value}{od an:Option Addr}{osl:Array (Option Value)}{kV doc pm cdv ct:Value}(l:K.lookup f=some ⟨oc,od,.func (PySem.W.fnOf x qual (J9 st) (G8 st) (A4 st) .none kV doc pm an cdv ct),osl⟩)
   (c:PySem.W.codeIn K cdv qual=true) (k:PySem.W.keepIn K (.ref f)=true):Fun K x qual st f (PySem.W.fnOf x qual (J9 st) (G8 st) (A4 st) .none kV doc pm an cdv ct):=⟨⟨oc,od,kV,doc,pm,an,cdv,ct,osl,rfl,l,c⟩,k⟩
end
theorem Y6{n:Nat}(h:n<=1000):n<sizeLine:=Nat.lt_of_le_of_lt h (by decide)
section
variable{X:Cx}
theorem pv(i:Nat){x:Str}{pos:Pos}(hN:X.N[i]?=some x:=by rfl)(hv:Vis X.env.scope x:=by first|exact Or.inl rfl|exact Or.inr (Or.inl rfl)|exact Or.inr (Or.inr rfl))(hd:(x==("__debug__":Str))=false:=by decide)
   (hcd:(x==("__classdict__":Str))=false:=by decide):PE X (.Name x pos) (G5d i):=G7q hN hv hd hcd
end
theorem V1{A B:Prop}(h:B):if false=true then A else B:=by
 rw[if_neg Bool.false_ne_true]
 exact h
theorem Y1{A B:Prop}(h:A):if true=true then A else B:=by
 rw[if_pos rfl]
 exact h
theorem D0d{c A B:Prop} [Decidable c] (hc:c) (h:B):if(!decide c)=true then A else B:=by
 rw[decide_eq_true hc]
 exact V1 h
noncomputable def B5 (H H':Hp):Prop:=∀b o,H b=some o ->H' b=some o
theorem B5.refl(H:Hp):B5 H H:=fun _ _ h=>h
theorem B5.trans{H H1 H2:Hp}(a:B5 H H1)(b:B5 H1 H2):B5 H H2:=fun c o h=>b c o (a c o h)
theorem B5.free{H H':Hp}(e:B5 H H'){l:Addr}(h:H' l=Option.none):H l=Option.none:=by
 cases q:H l with
 |none=>rfl
 | some o=>
   rw[e l o q] at h
   cases h
theorem B5.seq{K:PySem.W.Frag}{H H':Hp}{a:Addr}{xs:List V}(e:B5 H H')(h:SqL K H a xs):SqL K H' a xs:=by
 rcases h with(h|⟨o,h⟩)|h
 . exact .inl (.inl (e _ _ h))
 . exact .inl (.inr ⟨o,e _ _ h⟩)
 exact .inr h
end L2
set_option maxHeartbeats 4000000
namespace L2
open PySem PySem.Spec PyProof.Rows
structure XT where
 t:Addr
 x:Value:= .none
 b:Bool:=false
instance:Coe Addr XT:=⟨fun t=>{t:=t}⟩
noncomputable abbrev A0d (C:Value) (t:XT) (dd:Option Addr) (tb:Value):Obj:=
 {cls:=C,dict:=dd,data:= .fields #[.ref t.t,tb,t.x,.none,.bool t.b,.none]}
structure J4t(fs:List Addr)(h h':Heap)(a:Addr)(C:Value)(t:XT)(dd:Option Addr)(T:Addr)(fl:Value):Prop where
 keep:∀b o,b ∉ fs ->b≠a ->h.get? b=some o ->h'.get? b=some o
 slot:∀b o,b≠a ->h.get? b=some o ->∃sl,h'.get? b=some {o with slots:=sl}
 new:h.get? T=none
 ne:T≠a
 exc:h'.get? a=some (A0d C t dd (.ref T))
 tbk:∃oT ts,h'.get? T=some oT/\oT.data= .fields ts/\ts[3]?=some fl
section
variable{M:Model}{A:Around}{E:Value ->Shared ->Prop}{s:Shared}{base:Heap}{env:Env}{outer:List Env}{L a:Addr}{t:XT}{C:Value}{dd:Option Addr}{tb:Value}{Q:Unit ->Shared ->Prop}
theorem G1v{oa:Obj}{vs:Array Value}{l:List Env}(hl:s.heap.FunFrames base l)(ha:s.heap.get? a=some oa)(hd:oa.data= .fields vs):a ∉ l.filterMap (·.frame):=by
 intro hm
 obtain⟨_,o,ho,hn⟩:=hl.mem hm
 rw[ha] at ho
 cases ho
 exact hn vs hd
theorem C5d{head:Value}{hn:Bool}(hfr:A.frames=some (env::outer))(hl:s.heap.FunFrames base (env::outer))(hf:env.frame=some L)
   (ha:s.heap.get? a=some (A0d C t dd tb))
   (h:∀h' T,J4t ((env::outer).filterMap (·.frame)) s.heap h' a C t dd T (rawInt L) ->Q () {s with heap:=h'}):
   wpAny M A (do
     let x<-frameOf env
     let pl<-entryPlaceOf L hn
     let b<-EntryCells.newEntry head x .none (rawInt L) .none pl
     setField (.ref a) 1 b) Q E s:=by
 have na:=G1v hl ha rfl
 refine wpAny_bind (wpAny_frameOf_fun hfr hl hf fun g hg=>?_)
 refine wpAny_bind (wpAny_entryPlaceOf fun pl hpl=>?_)
 unfold EntryCells.newEntry newFields
 refine wpAny_bind (wpAny_newObj_type ?_ (hpl.sizeOk5 _ _ _ _ _))
 have a1:g.get? a=some (A0d C t dd tb):=(hg.2.1 a na).trans ha
 have a2:=fun(z:Obj)=>Heap.get?_push_of_some (h:=g) z a1
 have nT:g.objs.size≠a:=Nat.ne_of_gt (Heap.lt_size a1)
 refine wpAny_setField (a2 _) rfl (by show 1<6;decide) (h _ g.objs.size ?_)
 have up:∀(z:Obj) (f:Obj ->Obj) b o,b≠a ->g.get? b=some o ->((g.push z).update a f).get? b=some o:=by
   intro z f b o hb e
   rw[Heap.get?_update_other _ _ (Ne.symm hb)]
   exact Heap.get?_push_of_some _ e
 refine⟨fun b o hb hba e=>up _ _ b o hba ((hg.2.1 b hb).trans e),fun b o hba e=>?_,?_,nT,?_,?_⟩
 . obtain⟨sl,e1⟩:=hg.2.2 b o e
   exact⟨sl,up _ _ b _ hba e1⟩
 . refine Heap.get?_none_of_le ?_
   rw[hg.1]
   exact Nat.le_refl _
 . exact Heap.get?_update_self _ (a2 _) rfl
 refine⟨_,_,(Heap.get?_update_other _ _ (Ne.symm nT)).trans (Heap.get?_push_size _ rfl),rfl,?_⟩
 first
   |(simp;done)
   |(rcases hpl with rfl|⟨_,_,_,_,_,_,_,rfl⟩<;>simp)
noncomputable def G6e (h:Heap) (a:Addr) (tb:Value):Prop:=tb= .none\/∃T oT ts fl,tb= .ref T/\T≠a/\h.get? T=some oT/\oT.data= .fields ts/\ts[3]?=some fl
theorem D2s(hfr:A.frames=some (env::outer))(hl:s.heap.FunFrames base (env::outer))(hf:env.frame=some L)
   (ha:s.heap.get? a=some (A0d C t dd tb)) (ht:G6e s.heap a tb) (hne:∀T oT ts,tb= .ref T ->s.heap.get? T=some oT ->oT.data= .fields ts ->ts[3]?≠some (rawInt L))
   (h:∀h' T,(∀b o,b ∉ (env::outer).filterMap (·.frame) ->b≠a ->tb≠ .ref b ->s.heap.get? b=some o ->h'.get? b=some o) ->
     (∀b o,b≠a ->tb≠ .ref b ->s.heap.get? b=some o ->∃sl,h'.get? b=some {o with slots:=sl}) ->s.heap.get? T=none ->T≠a ->
     h'.get? a=some (A0d C t dd (.ref T)) ->(∃oT ts,h'.get? T=some oT/\oT.data= .fields ts/\ts[3]?=some (rawInt L)) ->Q () {s with heap:=h'}):
   wpAny M A (noteFrame (.ref a) env) Q E s:=by
 unfold noteFrame
 simp only[hf]
 refine wpAny_bind (wpAny_field ha rfl (x:=tb) rfl ?_)
 rcases ht with rfl|⟨T,oT,ts,fl,rfl,nT,hT,dT,h3⟩
 . rw[if_neg (by decide)]
   refine C5d hfr hl hf ha fun h' T N=>?_
   exact h h' T (fun b o hb hba _ e=>N.keep b o hb hba e) (fun b o hba _ e=>N.slot b o hba e) N.new N.ne N.exc N.tbk
 rw[if_pos (show(Value.ref T !=Value.none)=true by simp)]
 refine wpAny_bind (wpAny_field hT dT h3 ?_)
 rw[if_neg (show¬((fl==rawInt L)=true) from fun q=>hne T oT ts rfl hT dT (by rw[h3,beq_iff_eq.mp q]))]
 refine wpAny_bind (wpAny_setField hT dT (Array.getElem?_eq_some_iff.mp h3).1 ?_)
 have oth:∀(f:Obj ->Obj) b,b≠T ->(s.heap.update T f).get? b=s.heap.get? b:=fun f b hb=>Heap.get?_update_other _ _ (Ne.symm hb)
 have nrec:∀b o,s.heap.get? b=some o ->(∀vs,o.data≠ .fields vs) ->b≠T:=by
   intro b o e hn q
   rw[q,hT] at e
   cases e
   exact hn ts dT
 refine C5d (s:={s with heap:=_}) hfr (hl.of_keeps fun b o e hn=>⟨o,(oth _ b (nrec b o e hn)).trans e,rfl⟩) hf ((oth _ a (Ne.symm nT)).trans ha) fun h' T' N=>?_
 have neb:∀b,Value.ref T≠Value.ref b ->b≠T:=fun b q z=>q (by rw[z])
 refine h h' T' (fun b o hb hba hbT e=>N.keep b o hb hba ((oth _ b (neb b hbT)).trans e)) (fun b o hba hbT e=>N.slot b o hba ((oth _ b (neb b hbT)).trans e)) ?_ N.ne N.exc N.tbk
 have nw:=N.new
 by_cases q:T'=T
 . subst q
   have:=Heap.get?_update_self (Obj.mapFields (·.setIfInBounds 3 Value.none)) hT (Obj.isFreed_of_fields (Obj.data_mapFields dT _))
   rw[nw] at this
   cases this
 rw[oth _ T' q] at nw
 exact nw
theorem C4u{T:Addr}{oT:Obj}{ts:Array Value}(hf:env.frame=some L)(ha:s.heap.get? a=some (A0d C t dd (.ref T)))(hT:s.heap.get? T=some oT)(dT:oT.data= .fields ts)(h3:ts[3]?=some (rawInt L))(h:Q () s):
   wpAny M A (noteFrame (.ref a) env) Q E s:=by
 unfold noteFrame
 simp only[hf]
 refine wpAny_bind (wpAny_field ha rfl (x:= .ref T) rfl ?_)
 rw[if_pos (show(Value.ref T !=Value.none)=true by simp)]
 refine wpAny_bind (wpAny_field hT dT h3 ?_)
 rw[if_pos (show(rawInt L==rawInt L)=true by simp)]
 exact wpAny_pure h
theorem G7g{T:Addr}{oT:Obj}{ts:Array Value}{fl:Value}{fr:Option Addr}(ha:s.heap.get? a=some (A0d C t dd (.ref T)))(hT:s.heap.get? T=some oT)(dT:oT.data= .fields ts)(h3:ts[3]?=some fl)
   (h:∀h',(∀b o,b≠T ->s.heap.get? b=some o ->h'.get? b=some o) ->(∃oT' ts',h'.get? T=some oT'/\oT'.data= .fields ts'/\ts'[3]?=some (fr.elim Value.none fun f=>rawInt f)) ->Q () {s with heap:=h'}):wpAny M A (setFlight (.ref a) fr) Q E s:=by
 have sz:3<ts.size:=(Array.getElem?_eq_some_iff.mp h3).1
 unfold setFlight
 refine wpAny_bind (wpAny_field ha rfl (x:= .ref T) rfl ?_)
 rw[if_pos (show(Value.ref T !=Value.none)=true by simp)]
 refine wpAny_setField hT dT sz (h _ (fun b o hb e=>(Heap.get?_update_other _ _ (Ne.symm hb)).trans e) ?_)
 have d2:=Obj.data_mapFields dT (·.setIfInBounds 3 (fr.elim Value.none fun f=>rawInt f))
 exact⟨_,_,Heap.get?_update_self _ hT (Obj.isFreed_of_fields d2),d2,by simp[sz]⟩
end
section
variable{prog:Program}{w:World}{A:Around}{E:Value ->Shared ->Prop}{s:Shared}
end
theorem Z9.there{P:Program}{w:World}{H:Hp}{h:Heap}{a:Addr}{o:HO}(x:Z9 P w H h a o):∃u,h.get? a=some u:=by
 cases o with
 |lst xs=>obtain⟨_,_,_,_,e⟩:=x;exact⟨_,e⟩
 |tup xs=>obtain⟨_,_,_,_,e,_⟩:=x;exact⟨_,e⟩
 |dK kvs=>obtain⟨_,_,_,_,o,_,_,e,_⟩:=x;exact⟨_,e⟩
 |dT kvs=>obtain⟨_,_,_,_,o,_,_,e,_⟩:=x;exact⟨_,e⟩
 |set S n=>obtain⟨o,_,_,_,e,_⟩:=x;exact⟨_,e⟩
 |ins C dx fs=>obtain⟨_,_,_,e,_⟩:=x;exact⟨_,e⟩
 |own y=>obtain⟨_,e⟩:=x;exact⟨_,e⟩
 |xd fs=>obtain⟨_,⟨_,_,_,e,_⟩,_⟩:=x;exact⟨_,e⟩
 |rng lo hi=>obtain⟨_,_,_,e⟩:=x;exact⟨_,e⟩
 |frz ob u=>obtain⟨e,_⟩:=x;exact⟨_,e⟩
 |tbl ps=>exact⟨_,show h.get? a=some _ from x⟩
 |met f y=>exact⟨_,show h.get? a=some _ from x⟩
 |ext φ=>obtain⟨_,e,_⟩:=x;exact e
theorem HOk.new{P:Program}{w:World}{H:Hp}{h:Heap}{a:Addr}(x:HOk P w H h)(e:h.get? a=none):H a=none:=by
 cases q:H a with
 |none=>rfl
 | some u=>
   obtain⟨o,z⟩:=(x a u q).there
   rw[e] at z
   cases z
structure Nw(X:Cx)(pins:List (Addr×Obj))(H:Hp)(b:Addr):Prop where
 un:H b=none
 loc:b≠X.env.locals
 fs:b ∉ X.fs
 old:X.s₀.heap.get? b=none
 cell:∀x c,X.env.cells.lookup x=some c ->c≠b
 pin:∀p∈X.pn++pins,p.1≠b
section
variable{X:Cx}{pins:List (Addr×Obj)}{σ:St}{H H':Hp}{s s':Shared}{a b:Addr}{t:XT}{C:Value}{dd:Option Addr}
theorem Inv.fsFree(I:Inv X pins σ H s):∀b∈X.fs,H b=none:=fun b hb=>I.stkFree b (by
 rcases I.ok.stk with z|⟨z,zf⟩
 . rw[z];exact hb
 . rw[z]
   unfold frs
   rw[List.filterMap_cons,zf]
   exact List.mem_cons_of_mem _ hb)
theorem Inv.nw(I:Inv X pins σ H s)(hex:X.ex=[])(e:s.heap.get? b=none)(hu:H' b=none):Nw X pins H' b:=by
 refine⟨hu,?_,?_,?_,?_,?_⟩
 . rintro rfl
   obtain⟨m,⟨o,_,_,ho,_⟩,_⟩:=I.loc
   rw[e] at ho
   cases ho
 . intro hb
   obtain⟨_,o,ho,_⟩:=I.funs.mem hb
   rw[e] at ho
   cases ho
 . cases q:X.s₀.heap.get? b with
   |none=>rfl
   | some o=>
     obtain⟨o',z⟩:=I.base.there b o q (by rw[hex];simp)
     rw[e] at z
     cases z
 . rintro x c h rfl
   obtain⟨v,o,ho,_⟩:=I.cell x c h
   rw[e] at ho
   cases ho
 rintro p hp rfl
 obtain⟨z,_⟩:=I.pin p hp
 rw[e] at z
 cases z
theorem Inv.stepN{h':Heap}{ch:List Addr}(I:Inv X pins σ H s)(hch:∀b∈ch,Nw X pins H b)
   (keep:∀b o,b≠X.env.locals ->b ∉ X.fs ->b ∉ ch ->s.heap.get? b=some o ->h'.get? b=some o)
   (slot:∀b o,b ∉ ch ->s.heap.get? b=some o ->∃sl,h'.get? b=some {o with slots:=sl}):Inv X pins σ H {s with heap:=h'}:=by
 have neL:∀b o,X.s₀.heap.get? b=some o ->b≠X.env.locals:=fun b o e=>Nat.ne_of_lt (Nat.lt_of_lt_of_le (Heap.lt_size e) I.ok.above)
 have neC:∀b o,X.s₀.heap.get? b=some o ->b ∉ ch:=fun b o e hb=>by
   have z:=(hch b hb).old
   rw[e] at z
   cases z
 have cellK:∀x c,X.env.cells.lookup x=some c ->∀v,s.heap.IsCell c v ->h'.IsCell c v:=fun x c e v ⟨o,ho,hd⟩=>by
   have nch:c ∉ ch:=fun z=>(hch c z).cell x c e rfl
   obtain⟨sl,q⟩:=slot c o nch ho
   exact⟨_,q,hd⟩
 refine⟨I.ok,I.os,I.bare,⟨fun b o e n hb hx=>?_,fun b o e n hb hx=>?_,I.base.free,fun b o e hx=>?_,I.base.tups,I.base.frzs,I.base.tbls⟩,?_,fun x c e=>?_,I.free,I.freeC,fun p hp=>?_,?_,I.len⟩
 . exact keep b o (neL b o e) hb (neC b o e) (I.base.keep b o e n hb hx)
 . obtain⟨sl,e1⟩:=I.base.slot b o e n hb hx
   obtain⟨sl',e2⟩:=slot b _ (neC b o e) e1
   exact⟨sl',e2⟩
 . obtain⟨o',e1⟩:=I.base.there b o e hx
   obtain⟨sl',e2⟩:=slot b _ (neC b o e) e1
   exact⟨_,e2⟩
 . obtain⟨m,hn,hl⟩:=I.loc
   refine⟨m,?_,fun i x v e1 e2 e3=>?_⟩
   . obtain⟨o,es,ep,ho,r⟩:=hn
     obtain⟨sl,q⟩:=slot _ o (fun z=>(hch _ z).loc rfl) ho
     exact⟨_,es,ep,q,r⟩
   . obtain⟨u,r,l⟩:=hl i x v e1 e2 e3
     refine⟨u,r,?_⟩
     rcases l with l|⟨k,c,e,z⟩
     . exact .inl l
     . exact .inr ⟨k,c,e,cellK x c e _ z⟩
 . obtain⟨v,z⟩:=I.cell x c e
   exact⟨v,cellK x c e v z⟩
 . obtain⟨e,n,ne,nf,d⟩:=I.pin p hp
   exact⟨keep p.1 p.2 ne nf (fun z=>(hch p.1 z).pin p hp rfl) e,n,ne,nf,d⟩
 intro c o e
 have tr:∀b,H b≠none ->∀u,s.heap.get? b=some u ->h'.get? b=some u:=fun b hb u q=>
   keep b u (fun z=>hb (by rw[z];exact I.free)) (fun z=>hb (I.fsFree b z)) (fun z=>hb (hch b z).un) q
 refine(I.hok c o e).stay (fun b u hb q=>tr b ?_ u q) (fun _ q=>q) fun _ _ q=>q
 rcases hb with rfl|hb
 . rw[e];simp
 rw[hb];simp
noncomputable def Flt (X:Cx) (pins:List (Addr×Obj)) (H:Hp) (s:Shared) (a:Addr) (C:Value) (t:XT) (dd:Option Addr):Prop:=
 Nw X pins H a/\∃tb,s.heap.get? a=some (A0d C t dd tb)/\G6e s.heap a tb/\∀T,tb= .ref T ->Nw X pins H T
noncomputable def A2z (X:Cx) (pins:List (Addr×Obj)) (H:Hp) (s:Shared) (a:Addr) (C:Value) (t:XT) (dd:Option Addr) (fl:Value):Prop:=
 Nw X pins H a/\∃T oT ts,s.heap.get? a=some (A0d C t dd (.ref T))/\T≠a/\Nw X pins H T/\s.heap.get? T=some oT/\oT.data= .fields ts/\ts[3]?=some fl
structure C8n(X:Cx):Prop where
 ex:X.ex=[]
 st:X.stack=X.env::X.outer
 fr:X.env.frame=some X.env.locals
theorem A2z.flt{fl:Value}(F:A2z X pins H s a C t dd fl):Flt X pins H s a C t dd:=by
 obtain⟨n,T,oT,ts,e,ne,nT,eT,dT,h3⟩:=F
 exact⟨n,_,e,.inr ⟨T,oT,ts,fl,rfl,ne,eT,dT,h3⟩,fun T' z=>by cases z;exact nT⟩
noncomputable def A9n:Value ->List Addr
 | .ref z=>[z]
 |_=>[]
theorem B9k{M:Model}{E:Value ->Shared ->Prop}{Q:Unit ->Shared ->Prop}(B:C8n X)(I:Inv X pins σ H s)(F:Flt X pins H s a C t dd)
   (k:∀s',Inv X pins σ H s' ->A2z X pins H s' a C t dd (rawInt X.env.locals) ->Q () s'):wpAny M X.A (noteFrame (.ref a) X.env) Q E s:=by
 obtain⟨na,tb,e,ht,nT⟩:=F
 have hfr:=I.ok.frames
 rw[B.st] at hfr
 have hl:=I.stack
 rw[B.st] at hl
 by_cases hag:∃T oT ts,tb= .ref T/\s.heap.get? T=some oT/\oT.data= .fields ts/\ts[3]?=some (rawInt X.env.locals)
 . obtain⟨T,oT,ts,rfl,eT,dT,h3⟩:=hag
   rcases ht with z|⟨T',_,_,_,z,ne,_⟩
   . cases z
   . cases z
     exact C4u B.fr e eT dT h3 (k s I ⟨na,T,oT,ts,e,ne,nT T rfl,eT,dT,h3⟩)
 refine D2s hfr hl B.fr e ht (fun T oT ts z1 z2 z3 z4=>hag ⟨T,oT,ts,z1,z2,z3,z4⟩) fun h' T k1 k2 k3 k4 k5 k6=>?_
 have ch:∀b,b ∉ a::A9n tb ->b≠a/\tb≠ .ref b:=by
   intro b hb
   refine⟨fun z=>hb (by rw[z];exact List.mem_cons_self),fun z=>hb ?_⟩
   rw[z]
   exact List.mem_cons_of_mem _ (List.mem_singleton.mpr rfl)
 have I':Inv X pins σ H {s with heap:=h'}:=by
   refine I.stepN (ch:=a::A9n tb) (fun b hb=>?_) (fun b o h1 h2 h3 q=>k1 b o ?_ (ch b h3).1 (ch b h3).2 q) (fun b o h3 q=>k2 b o (ch b h3).1 (ch b h3).2 q)
   . rcases List.mem_cons.mp hb with rfl|hb
     . exact na
     . cases tb<;>simp[A9n] at hb
       subst hb
       exact nT _ rfl
   . intro z
     rw[List.filterMap_cons,B.fr] at z
     rcases List.mem_cons.mp z with z|z
     . exact h1 z
     . exact h2 z
 obtain⟨oT,ts,q1,q2,q3⟩:=k6
 exact k _ I' ⟨na,T,oT,ts,k5,k4,I.nw B.ex k3 (I.hok.new k3),q1,q2,q3⟩
theorem C5p{M:Model}{A:Around}{E:Value ->Shared ->Prop}{Q:Unit ->Shared ->Prop}{fl:Value}{fr:Option Addr}(I:Inv X pins σ H s)(F:A2z X pins H s a C t dd fl)
   (k:∀s',Inv X pins σ H s' ->A2z X pins H s' a C t dd (fr.elim Value.none fun f=>rawInt f) ->Q () s'):wpAny M A (setFlight (.ref a) fr) Q E s:=by
 obtain⟨na,T,oT,ts,e,ne,nT,eT,dT,h3⟩:=F
 refine G7g e eT dT h3 fun h' k1 hh_=>?_
 obtain⟨oT',ts',q1,q2,q3⟩:=hh_
 have I':Inv X pins σ H {s with heap:=h'}:=I.stepN (ch:=[T]) (fun b hb=>by
   have:b=T:=by simpa using hb
   subst this
   exact nT) (fun b o _ _ hb q=>k1 b o (fun z=>hb (by simp[z])) q) (fun b o hb q=>⟨_,k1 b o (fun z=>hb (by simp[z])) q⟩)
 exact k _ I' ⟨na,T,oT',ts',k1 a _ (Ne.symm ne) e,ne,nT,q1,q2,q3⟩
theorem A6z{M:Model}{A:Around}{E:Value ->Shared ->Prop}{Q:Unit ->Shared ->Prop}{fl:Value}(I:Inv X pins σ H s)(F:A2z X pins H s a C t dd fl)
   (k:∀s',Inv X pins σ H s' ->A2z X pins H s' a C t dd .none ->Q () s'):wpAny M A (setFlight (.ref a) none) Q E s:=C5p (fr:=none) I F k
theorem C7j{M:Model}{E:Value ->Shared ->Prop}{Q:Unit ->Shared ->Prop}(B:C8n X)(I:Inv X pins σ H s)(F:Flt X pins H s a C t dd)
   (k:∀s',Inv X pins σ H s' ->A2z X pins H s' a C t dd .none ->Q () s'):wpAny M X.A (leaving X.env (.ref a)) Q E s:=by
 unfold leaving
 exact wpAny_bind (B9k B I F fun s1 I1 F1=>A6z I1 F1 k)
end
noncomputable abbrev EK:=Value ->Option Addr ->St ->Hp ->Prop
noncomputable def G7 (X:Cx) (EH:EK):Prop:=∀(pins:List (Addr×Obj)) (σ:St) (H:Hp) (s:Shared) (a t:Addr) (C:Value) (dd:Option Addr),Inv X pins σ H s ->Flt X pins H s a C t dd ->EH C dd σ H ->X.xe (.ref a) s
noncomputable def CX1 (P:Program) (w:World):CXT:=fun outer H s E e s'=>∃(a t:Addr) (C:Value) (dd:Option Addr) (H':Hp),e= .ref a/\s'.os=s.os/\AllBare s'.gens/\Un (frs outer) [] H H' s.heap s'.heap/\HOk P w H' s'.heap/\E C dd H'/\
 (s.heap.get? a=none/\H' a=none)/\∃T oT ts,s'.heap.get? a=some (A0d C t dd (.ref T))/\T≠a/\(s.heap.get? T=none/\H' T=none)/\s'.heap.get? T=some oT/\oT.data= .fields ts/\ts[3]?=some .none
theorem A6b{P:Program}{w:World}{K:PySem.W.Frag}{mg:Str ->Option Value}{base:Heap}{N:List Str}{qual:Str}{scope:Scope}{f:Addr}{cd:Value}{A:Around}{outer:List Env}{s:Shared}{H:Hp}{E:XK}:
   G7 (A0v (CX1 P w) P w K mg base N qual scope f cd A outer s H E) (fun C dd _ H'=>E C dd H'):=by
 intro pins σ H' s' a t C dd I F h
 refine C7j (X:=A0v (CX1 P w) P w K mg base N qual scope f cd A outer s H E) ⟨rfl,rfl,rfl⟩ I F fun s2 I2 F2=>?_
 obtain⟨na,T,oT,ts,e,ne,nT,eT,dT,h3⟩:=F2
 exact⟨a,t,C,dd,H',rfl,I2.os,I2.bare,I2.base,I2.hok,h,⟨na.old,na.un⟩,T,oT,ts,e,ne,⟨nT.old,nT.un⟩,eT,dT,h3⟩
section
variable{X:Cx}{k:Nat}{f C:Addr}{fd:FuncData}{ps:List Str}{sp:Sp}{dvs:List V}{ds:List Value}{EH:EK}{x m:Str}{p pos apos:Pos}{e o:Expr}{es:List Expr}{ta:TE}{t:TA}
theorem G5n{pins:List (Addr×Obj)}{σ:St}{H:Hp}{s:Shared}{e:Value}{s':Shared}(hx:G7 X EH)(hex:X.ex=[])(I:Inv X pins σ H s)
   (h:CX1 X.prog X.w X.stack H s (fun C d H'=>EH C d σ H') e s'):X.xe e s':=by
 obtain⟨a,t,C,dd,H',rfl,os,bare,un,hok,hE,⟨a1,a2⟩,T,oT,ts,z,ne,⟨t1,t2⟩,eT,dT,h3⟩:=h
 have I':Inv X pins σ H' s':=I.call' (ch:=[]) os un hok bare (fun b q=>absurd q (by simp))
 exact hx pins σ H' s' a t C dd I' (A2z.flt ⟨I.nw hex a1 a2,T,oT,ts,z,ne,I.nw hex t1 t2,eT,dT,h3⟩) hE
theorem B0y{pins:List (Addr×Obj)}{σ:St}{H:Hp}{s:Shared}{Q:VK}{us:List Value}{vs:List V}(F:A9 X.prog X.w X.K X.mg X.base (CX1 X.prog X.w) k f fd ps sp)(hr:Y9 k X.A)(hb:Binds X.K fd ps ds)(hd:J0 dvs ds)
   (hx:G7 X EH) (hex:X.ex=[]) (I:Inv X pins σ H s) (r:J0 vs us) (h:sp (vs++dvs) H Q (fun C d H'=>EH C d σ H')):wpAny (model X.prog X.w) X.A (call (.ref f) us) (EP X pins σ Q) X.xe s:=by
 have r2:J0 (vs++dvs) (us++ds):=r.append hd
 have hl:(us++ds).length=ps.length:=by rw[<-r2.length];exact F.len _ _ _ _ h
 refine wpAny_call (codeAny_mono (F.run X.A X.stack s H ⟨us,[]⟩ (us++ds) (vs++dvs) Q _ hr I.env0 (hb s us I.kIn hl) r2 h) fun r s' hq=>?_)
 cases r with
 |error e=>exact G5n hx hex I hq
 | ok fl=>
   cases fl with
   |ret u=>exact I.after hq
   |next=>exact False.elim hq
   |brk=>exact False.elim hq
   |cont=>exact False.elim hq
noncomputable def A8u (sp:Sp) (dvs:List V) (EH:EK) (t:TA):TE:=fun σ H Q=>t σ H fun vs H1=>sp (vs++dvs) H1 Q (fun C d H'=>EH C d σ H')
theorem D1p(F:A9 X.prog X.w X.K X.mg X.base (CX1 X.prog X.w) k f fd ps sp)(hr:Y9 k X.A)(hg:Gl X x)(hm:X.mg x=some (.ref f))(hk:PySem.W.keepIn X.K (.ref f)=true)(hb:Binds X.K fd ps ds)(hd:J0 dvs ds)
   (hx:G7 X EH) (ha:PA X (e::es) t) (hex:X.ex=[]:=by rfl) (hdb:(x==("__debug__":Str))=false:=by decide) (he:starEach (e::es) X.env=(false,eval e X.env)::starEach es X.env:=by rfl)
   (hpl:(backTo pos (starEach es X.env)).any (·.1)=false:=by rfl):PE X (.Call (.Name x p) (e::es) [] pos) (A8u sp dvs EH t):=by
 intro pins s σ H Q I h
 refine wpAny_Call_Name_kw (Z8 I hg hm ?_ hdb)
 refine PySem.W.callWith_K (h₀:=X.base) I.ok.mod.kin hk (thn (ha pos pins s σ H _ I h) fun us s1 ⟨vs,H1,I1,r,q⟩=>⟨I1.kIn,?_⟩) he hpl
 exact B0y F hr hb hd hx hex I1 r q
theorem C6v(F:A9 X.prog X.w X.K X.mg X.base (CX1 X.prog X.w) k f fd ps sp)(hr:Y9 k X.A)(hg:Gl X x)(hm:X.mg x=some (.ref f))(hk:PySem.W.keepIn X.K (.ref f)=true)(hb:Binds X.K fd ps ds)(hd:J0 dvs ds)
   (hx:G7 X EH) (hex:X.ex=[]:=by rfl) (hdb:(x==("__debug__":Str))=false:=by decide):PE X (.Call (.Name x p) [] [] pos) (A8u sp dvs EH B3m):=by
 intro pins s σ H Q I h
 refine wpAny_Call_Name_kw (Z8 I hg hm ?_ hdb)
 exact PySem.W.callWith_K0 I.kIn hk (B0y (us:=[]) F hr hb hd hx hex I .nil h)
end
section
variable{P:Program}{w:World}{K:PySem.W.Frag}{mg:Str ->Option Value}{base:Heap}
theorem Fun.okE{x qual:Str}{st:Stmt}{f:Addr}{fd:FuncData}{N ps:List Str}{k:Nat}{sp:Sp}(F:Fun K x qual st f fd)(S:B0 N ps (A4 st))(len:∀vs H Q E,sp vs H Q E ->vs.length=ps.length)
   (hbody:∀(X:Cx) (cdv:Value) (A:Around) (outer:List Env) (s:Shared) (H:Hp) (vs:List V) (Q:VK) (E:XK),X=A0v (CX1 P w) P w K mg base N qual (A4 st) f cdv A outer s H E ->Y9 k X.A ->G7 X (fun C dd _ H'=>E C dd H') ->sp vs H Q E ->
     ∃t,PSs (A0v (CX1 P w) P w K mg base N qual (A4 st) f cdv A outer s H E) (G8 st) t/\t {nx:=fun _ H'=>Q .non H',rt:=Q} (A2d N vs) H):A9 P w K mg base (CX1 P w) (k+1) f fd ps sp:=by
 obtain⟨oc,od,kV,doc,pm,an,cdv,ct,osl,rfl,lk,hc⟩:=F.ex
 exact C9e lk hc S len fun A outer s H vs Q E hr h=>hbody _ cdv A outer s H vs Q E rfl hr A6b h
theorem A9.up{k:Nat}{f:Addr}{fd:FuncData}{ps:List Str}{sp:Sp}(F:A9 P w K mg base CX0 k f fd ps sp):A9 P w K mg base (CX1 P w) k f fd ps sp:=by
 refine⟨F.len,fun A outer s H args us vs Q E hr e0 hb r h=>codeAny_mono (F.run A outer s H args us vs Q E hr e0 hb r h) fun r s' q=>?_⟩
 cases r with
 |error e=>exact False.elim q
 |ok fl=>cases fl<;>exact q
end
end L2
namespace L2
open PySem PySem.Spec PyProof.Rows PySem.W
theorem D9x{K:Frag}{h:Heap}{C:Addr}{bmB:List Value}{newId:String}(X:K.In h)(q:excIn K C bmB newId=true):
   ∃ (bm:List Value) (N:Addr) (nm qn:Str) (bs:List Value) (hd:Bool) (sn:List Str) (sub:List Value) (ab:Bool) (col:Option Bool) (dd:Option Addr) (k0 k1 k2 k3 k5:Option Value) (mN:Str ->Option Value),
     h.get? C=some (excClassObj nm qn C N bs bm hd sn sub ab col dd k0 k1 k2 k3 k5 newId)/\h.Ns N mN/\mN "__init__"=none/\OwnTail h bmB bm:=by
 unfold excIn at q
 split at q
 . rename_i dd cd sl ho
   split at q
   . rename_i C' bm k0 k1 k2 k3 n k5 hm hs
     simp only[Bool.and_eq_true,beq_iff_eq,Bool.not_eq_true'] at q
     obtain⟨⟨⟨⟨⟨r1,r2⟩,r3⟩,r4⟩,r5⟩,r6⟩:=q
     subst r1 r2
     obtain⟨a1,a2,a3,a4,a5,a6,a7,a8,a9,a10,a11⟩:=cd
     dsimp only at hm r3 r5 r6
     subst hm r3
     have hsl:sl= #[k0,k1,k2,k3,some (.builtin n),k5]:=by
       obtain⟨l⟩:=sl
       simp only at hs
       rw[hs]
     subst hsl
     exact⟨bm,a4,a1,a5,a2,a6,a7,a8,a9,a10,dd,k0,k1,k2,k3,k5,_,X _ _ ho,.of_isNs (isNs_of_in X r5),nsMap_none_of_in X r5 r6,tail_of_in X r4⟩
   . cases q
 cases q
section
variable{X:Cx}{x:Str}{p cpos pos:Pos}{e:Expr}{es:List Expr}{t:TA}{C:Addr}{bmB:List Value}{B newId initId:String}{EH:EK}
noncomputable def G5q (C:Addr) (EH:EK) (t:TA):TS:=fun _ σ H=>t σ H fun vs H1=>vs.length<=sizeLine/\EH (.ref C) none σ H1
theorem Y7(hg:Gl X x)(hm:X.mg x=some (.ref C))(q:excIn X.K C bmB newId=true)(FB:ExcBaseFacts B newId initId bmB)(hh:X.A.handled=none)(hx:G7 X EH)(ha:PA X (e::es) t)(hex:X.ex=[]:=by rfl)
   (hdb:(x==("__debug__":Str))=false:=by decide) (he:starEach (e::es) X.env=(false,eval e X.env)::starEach es X.env:=by rfl) (hpl:(backTo cpos (starEach es X.env)).any (·.1)=false:=by rfl):
   PS X (.Raise (some (.Call (.Name x p) (e::es) [] cpos)) none pos) (G5q C EH t):=by
 intro pins s σ H D I h
 obtain⟨bm,N,nm,qn,bs,hd,sn,sub,ab,col,dd,k0,k1,k2,k3,k5,mN,hC,hN,hni,T⟩:=D9x I.ok.mod.kin q
 refine wpAny_Raise_call_subT (C:=C) (nm:=nm) (q:=qn) (N:=N) (bs:=bs) (bm:=bm) (hdct:=hd) (sn:=sn) (sub:=sub) (ab:=ab) (col:=col) (dd:=dd) (k0:=k0) (k1:=k1) (k2:=k2) (k3:=k3) (k5:=k5) FB (mN:=mN) (T.hasType FB.hasBase) hh
   (by rw[he];show(false||(backTo cpos (starEach es X.env)).any (·.1))=false;rw[hpl];rfl) hni (Z8 I hg hm ⟨rfl,?_⟩ hdb)
 have ha':=ha cpos pins s σ H _ I h
 rw[he] at ha' ⊢
 refine Calls.evalArgs_plain (wpAny_mono ha' (fun us s2 ⟨vs,H1,I1,r,z,q⟩=>⟨rfl,by rw[<-r.length];exact z,I1.bk _ _ hC,hN.keeps I1.bk,T.keeps I1.bk,fun h' a m=>?_⟩) fun _ _ y=>y)
 have I2:Inv X pins σ H1 {s2 with heap:=h'}:=I1.kept (t':=s2.toks) m.keeps
 obtain⟨t',e1,tn,e2⟩:=m.there
 exact hx pins σ H1 _ a t' (.ref C) none I2 ⟨I1.nw hex m.new (I1.hok.new m.new),.none,e1,.inl rfl,fun T z=>nomatch z⟩ q
end
section
variable{X:Cx}{pins:List (Addr×Obj)}{σ:St}{H:Hp}{s:Shared}
theorem Inv.track{a:Addr}{o:Obj}(I:Inv X pins σ H s)(n:Nw X pins H a)(e:s.heap.get? a=some o):Inv X pins σ (upd H a (.frz o (.own a))) s:=by
 have ne:∀b u,H b=some u ->b≠a:=fun b u z q=>by rw[q,n.un] at z;cases z
 have up:∀b,b≠a ->upd H a (.frz o (.own a)) b=H b:=fun b hb=>C9 hb
 refine⟨I.ok,I.os,I.bare,⟨I.base.keep,I.base.slot,fun b u z m hx=>?_,I.base.there,fun b xs z=>?_,fun b u v z=>?_,fun b ps z=>?_⟩,I.loc,I.cell,?_,fun x c z=>?_,fun p hp=>?_,fun b u z=>?_,I.len⟩
 . rw[up b fun q=>by rw[q,n.old] at z;cases z]
   exact I.base.free b u z m hx
 . have:=I.base.tups b xs z
   rw[up b (ne b _ this)];exact this
 . have:=I.base.frzs b u v z
   rw[up b (ne b _ this)];exact this
 . obtain⟨more,this⟩:=I.base.tbls b ps z
   exact⟨more,by rw[up b (ne b _ this)];exact this⟩
 . rw[up _ (Ne.symm n.loc)];exact I.free
 . rw[up _ (n.cell x c z)];exact I.freeC x c z
 . obtain⟨q1,q2,q3⟩:=I.pin p hp
   exact⟨q1,by rw[up _ (n.pin p hp)];exact q2,q3⟩
 by_cases hb:b=a
 . subst hb
   rw[A6] at z
   cases z
   exact⟨e,_,e⟩
 rw[up b hb] at z
 exact(I.hok b u z).stay (fun _ _ _ q=>q) (fun c q=>by rw[up c (ne c _ q)];exact q) (fun c xs q=>by rw[up c (ne c _ q)];exact q)
theorem C7k{M:Model}{A:Around}{E:Value ->Shared ->Prop}{i:Nat}{x:Str}{v:V}{Q:Unit ->Shared ->Prop}(I:Inv X pins σ H s)(hN:X.N.Nodup)(hi:X.N[i]?=some x)(hk:X.env.scope.names.lookup x=some .local)(hv:σ[i]?=some (some v))
   (k:∀s',Inv X pins (σ.set i none) H s' ->Q () s'):wpAny M A (unbindName X.env x) Q E s:=by
 obtain⟨m,hn,hl⟩:=id I.loc
 have hcls:(X.env.scope.kind== .class||(X.env.scope.kind== .module&&X.env.locals !=X.env.globals))=false:=by rw[I.ok.kind];rfl
 obtain⟨u,_,lk⟩:=hl i x v hi hv (.inl hk)
 have hm:m x=some u:=by
   rcases lk with⟨_,z⟩|⟨z,_⟩
   . exact z
   . have z:X.env.scope.names.lookup x=some .cell\/X.env.scope.names.lookup x=some .free:=z
     rw[hk] at z
     rcases z with z|z<;>cases z
 refine wpAny_unbindName_local hk hn hm hcls fun h' w' hn' hs=>k _ ?_
 obtain⟨oL,_,_,hoL,_⟩:=id hn
 have nl:∀b o,X.s₀.heap.get? b=some o ->b≠X.env.locals:=fun b o e=>Nat.ne_of_lt (Nat.lt_of_lt_of_le (Heap.lt_size e) I.ok.above)
 refine⟨I.ok,I.os,I.bare,⟨fun b o e n hb hx=>?_,fun b o e n hb hx=>?_,I.base.free,fun b o e hx=>?_,I.base.tups,I.base.frzs,I.base.tbls⟩,⟨_,hn',fun j y v' e1 e2 e3=>?_⟩,fun y c e=>?_,I.free,I.freeC,fun p hp=>?_,fun b u z=>?_,by simpa using I.len⟩
 . exact(hs.2 b (nl b o e)).trans (I.base.keep b o e n hb hx)
 . obtain⟨sl,e1⟩:=I.base.slot b o e n hb hx
   exact⟨sl,(hs.2 b (nl b o e)).trans e1⟩
 . obtain⟨o',e1⟩:=I.base.there b o e hx
   exact⟨o',(hs.2 b (nl b o e)).trans e1⟩
 . by_cases hj:j=i
   . subst hj
     have hlen:j<σ.length:=(List.getElem?_eq_some_iff.mp hv).1
     rw[List.getElem?_set_self hlen] at e2
     cases e2
   . rw[List.getElem?_set_ne (Ne.symm hj)] at e2
     obtain⟨u',r',q⟩:=hl j y v' e1 e2 e3
     refine⟨u',r',?_⟩
     rcases q with⟨k1,e⟩|⟨k1,c,e,z⟩
     . have:y≠x:=fun e=>hj (A4k hN e1 (e▸hi))
       exact .inl ⟨k1,by simp[this,e]⟩
     . exact .inr ⟨k1,c,e,z.sameBut hs (I.cne y c e)⟩
 . obtain⟨w2,z⟩:=I.cell y c e
   exact⟨w2,z.sameBut hs (I.cne y c e)⟩
 . obtain⟨e,n,ne,nf,d⟩:=I.pin p hp
   exact⟨(hs.2 p.1 ne).trans e,n,ne,nf,d⟩
 refine(I.hok b u z).stay (fun c w2 hc q=>(hs.2 c ?_).trans q) (fun _ q=>q) fun _ _ q=>q
 rintro rfl
 rcases hc with rfl|hc
 . rw[I.free] at z;cases z
 rw[I.free] at hc;cases hc
end
noncomputable abbrev Cx.hold (X:Cx) (pins:List (Addr×Obj)) (E:Value ->Shared ->Prop):Cx:={X with pn:=X.pn++pins,xe:=E}
noncomputable abbrev Cx.hnd (X:Cx) (pins:List (Addr×Obj)) (a:Addr):Cx:={X with A:=X.A.mark (some (.ref a)),calm:=false,pn:=X.pn++pins,xe:=fun _ _=>False}
section
variable{X:Cx}{pins pins':List (Addr×Obj)}{σ:St}{H:Hp}{s:Shared}{a:Addr}{E:Value ->Shared ->Prop}
theorem Inv.hold(I:Inv X pins σ H s):Inv (X.hold pins E) [] σ H s:=
 ⟨⟨I.ok.mod,I.ok.kind,I.ok.glob,I.ok.blt,I.ok.above,I.ok.inj,I.ok.has,I.ok.cab,I.ok.hd,I.ok.frames,I.ok.stk,I.ok.exf,I.ok.bs,I.ok.bsz,I.ok.noex,I.ok.exfs,I.ok.funs,I.ok.frf⟩,
   I.os,I.bare,I.base,I.loc,I.cell,I.free,I.freeC,fun p hp=>I.pin p (by simpa using hp),I.hok,I.len⟩
theorem Inv.unhold(I:Inv (X.hold pins E) pins' σ H s):Inv X pins σ H s:=
 ⟨⟨I.ok.mod,I.ok.kind,I.ok.glob,I.ok.blt,I.ok.above,I.ok.inj,I.ok.has,I.ok.cab,I.ok.hd,I.ok.frames,I.ok.stk,I.ok.exf,I.ok.bs,I.ok.bsz,I.ok.noex,I.ok.exfs,I.ok.funs,I.ok.frf⟩,
   I.os,I.bare,I.base,I.loc,I.cell,I.free,I.freeC,fun p hp=>I.pin p (List.mem_append_left _ hp),I.hok,I.len⟩
theorem Inv.hnd(I:Inv X pins σ H s):Inv (X.hnd pins a) [] σ H s:=
 ⟨⟨I.ok.mod,I.ok.kind,I.ok.glob,I.ok.blt,I.ok.above,I.ok.inj,I.ok.has,I.ok.cab,(fun z=>nomatch z),I.ok.frames,I.ok.stk,I.ok.exf,I.ok.bs,I.ok.bsz,I.ok.noex,I.ok.exfs,I.ok.funs,I.ok.frf⟩,
   I.os,I.bare,I.base,I.loc,I.cell,I.free,I.freeC,fun p hp=>I.pin p (by simpa using hp),I.hok,I.len⟩
theorem Inv.unhnd(ok:X.Ok)(I:Inv (X.hnd pins a) pins' σ H s):Inv X pins σ H s:=
 ⟨ok,I.os,I.bare,I.base,I.loc,I.cell,I.free,I.freeC,fun p hp=>I.pin p (List.mem_append_left _ hp),I.hok,I.len⟩
theorem Nw.unhold{b:Addr}(n:Nw (X.hold pins E) pins' H b):Nw X pins H b:=⟨n.un,n.loc,n.fs,n.old,n.cell,fun p hp=>n.pin p (List.mem_append_left _ hp)⟩
theorem Flt.unhold{t:XT}{C:Value}{dd:Option Addr}(F:Flt (X.hold pins E) pins' H s a C t dd):Flt X pins H s a C t dd:=by
 obtain⟨n,tb,e,ok,m⟩:=F
 exact⟨n.unhold,tb,e,ok,fun T z=>(m T z).unhold⟩
theorem SP.unhold{D:A9r}{f:Flow}{s':Shared}(h:SP (X.hold pins E) pins' D f s'):SP X pins D f s':=by
 cases f with
 |next=>obtain⟨σ',H',I,q⟩:=h;exact⟨σ',H',I.unhold,q⟩
 |brk=>obtain⟨σ',H',I,q⟩:=h;exact⟨σ',H',I.unhold,q⟩
 |cont=>obtain⟨σ',H',I,q⟩:=h;exact⟨σ',H',I.unhold,q⟩
 |ret u=>obtain⟨v,σ',H',I,r,q⟩:=h;exact⟨v,σ',H',I.unhold,r,q⟩
end
structure A6n(K:Frag)(R:Addr):Prop where
 ty:typeIn K (.ref R)=some (.type "type")
 cl:(clsIn K R).isSome=true
 ex:subIn K (.ref R) (.type "BaseException")=some true
theorem A3q{K:Frag}{M:Model}{h:Heap}{R:Addr}(X:K.In h)(c:(clsIn K R).isSome=true):Looks M h (isType (.ref R)) true:=by
 unfold clsIn at c
 split at c
 . rename_i ho
   intro A' Q' E' s' k q
   unfold isType loadHead
   exact wpAny_bind (wpAny_loadPart (k _ _ (X _ _ ho)) (wpAny_pure q))
 cases c
theorem A5m{K:Frag}{M:Model}{A:Around}{E:Value ->Shared ->Prop}{s:Shared}{a R:Addr}{C:Value}{oa:Obj}{b:Bool}{Q:Bool ->Shared ->Prop}(X:K.In s.heap)(ha:s.heap.get? a=some oa)(hc:oa.cls=C)(c:A6n K R)
   (m:subIn K C (.ref R)=some b) (h:Q b s):wpAny M A (excMatches (.ref a) (.ref R)) Q E s:=by
 obtain⟨hp,g,d,tk,os⟩:=s
 have L1:Looks M hp (typeOf (.ref R)) (.type "type"):=looks_typeIn X c.ty
 have L2:Looks M hp (isSubtype (.ref R) (.type "BaseException")) true:=looks_subIn X c.ex
 have L3:Looks M hp (isSubtype C (.ref R)) b:=looks_subIn X m
 have L4:Looks M hp (typeOf (.ref a)) C:=hc▸(Looks.ld ha).andThen .now
 have L5:Looks M hp (isType (.ref R)) true:=A3q X c.cl
 unfold excMatches
 unfold isInstance
 refine wpAny_bind (wpAny_bind (L1.at ?_))
 rw[tc_notTuple]
 refine wpAny_pure ?_
 simp only[Bool.false_eq_true,if_false]
 refine wpAny_bind (wpAny_pure ?_)
 simp only[List.forIn_cons,List.forIn_nil]
 unfold isExcClass
 refine wpAny_bind (wpAny_bind (wpAny_bind (wpAny_bind (L5.at ?_))))
 simp only[if_true]
 refine L2.at ?_
 simp only[Bool.not_true,Bool.false_eq_true,if_false]
 refine wpAny_pure (wpAny_pure ?_)
 refine wpAny_bind (L4.at ?_)
 refine wpAny_bind (wpAny_bind (wpAny_bind (L3.at ?_)))
 cases b with
 |true=>simp only[if_true];exact wpAny_pure (wpAny_pure (wpAny_pure h))
 |false=>simp only[Bool.false_eq_true,if_false];exact wpAny_pure (wpAny_pure (wpAny_pure h))
section
variable{X:Cx}{x n:Str}{np hpos pos:Pos}{R:Addr}{i:Nat}{body suite:List Stmt}{b₀:Stmt}{tb:EK ->TS}{ts:Addr ->TS}
end
structure C3c(K:Frag)(C:Addr):Prop where
 ga:findIn K (.ref C) "__getattribute__"=some (some (.builtin "BaseException.__getattribute__"))
 gh:findIn K (.ref C) "__getattr__"=some none
 ca:findIn K (.ref C) "__class__"=some (some (.builtin "object.__class__"))
 sn:specialIn K (.builtin "object.__class__") "__get__"=some (some (.builtin "getset_descriptor.__get__"))
 tk:takesIn K (.builtin "object.__class__")=some true
 ob:mroIn K C (.type "object")=some true
 be:subIn K (.ref C) (.type "BaseException")=some true
 cl:(clsIn K C).isSome=true
theorem A4p{prog:Program}{w:World}{A:Around}{E:Value ->Shared ->Prop}{s:Shared}{K:Frag}{a C:Addr}{oa:Obj}{od:Option Obj}{Q:Option Value ->Shared ->Prop}(F:C3c K C)(X:K.In s.heap)(I:PySem.W.InstAt s.heap a oa C od)
   (h:Q (some (.ref C)) {s with toks:=s.toks+1}):wpAny (model prog w) A (getAttr? (.ref a) "__class__") Q E s:=by
 obtain⟨hp,g,d,t,os⟩:=s
 have L0:=I.type (M:=model prog w)
 have L1:=looks_findIn (M:=model prog w) X F.ga
 have L2:=looks_findIn (M:=model prog w) X F.gh
 have L3:Looks (model prog w) hp (isInstance (.ref a) (.type "BaseException")) true:=L0.andThen (looks_subIn X F.be)
 have hf:findObj K C od "__class__"=some (.bind (.builtin "getset_descriptor.__get__") (.builtin "object.__class__")):=by
   obtain⟨cd,hc⟩:=Option.isSome_iff_exists.mp F.cl
   unfold findObj
   rw[hc,Option.bind_some,F.ca,Option.bind_some]
   simp[F.sn,F.tk]
 have L4:=looks_find (M:=model prog w) X I hf
 have hk:builtinKind "BaseException.__getattribute__"=some .slot:=by decide+kernel
 have hsplit:splitId "BaseException.__getattribute__"=some ("BaseException","__getattribute__"):=by decide+kernel
 have hargs:=PySem.F.args_bexc_ga (.ref a) (.str "__class__" t)
 have hb:=PySem.F.attr_ValueError.ga.bind (.ref a)
 unfold getAttr? getAttrBy? getAttrBy
 refine wpAny_bind (wpAny_mkText (wpAny_bind (wpAny_attempt (wpAny_holding (wpAny_bind (L0.at (wpAny_bind (L1.at ?_))))))))
 dsimp only
 rw[if_neg (show¬((onTheHeap (Value.ref C)&&Value.builtin "BaseException.__getattribute__"==Value.builtin "object.__getattribute__")=true) by
   rw[show(Value.builtin "BaseException.__getattribute__"==Value.builtin "object.__getattribute__")=false by decide+kernel,Bool.and_false];exact Bool.false_ne_true)]
 unfold getAttrByItsOwn
 refine wpAny_bind (m:=hookBefore (.ref C)) (L2.at ?_)
 refine wpAny_bind (wpAny_attempt (wpAny_holding ?_))
 unfold callGetattribute
 rw[if_neg (by decide)]
 unfold boundAndCalled
 rw[hb]
 refine wpAny_bind (wpAny_pure ?_)
 refine wpAny_call (codeAny_call_builtin PySem.F.attr_ValueError.ga.plain PySem.F.entry_bexc_ga ?_)
 have chk:∀{A':Around} {Q':Unit ->Shared ->Prop} {E':Value ->Shared ->Prop},Q' () ⟨hp,g,d,t+1,os⟩ ->wpAny (model prog w) A' (checkBuiltinCall "BaseException.__getattribute__" ⟨[.ref a,.str "__class__" t],[]⟩) Q' E' ⟨hp,g,d,t+1,os⟩:=by
   intro A' Q' E' hq
   simp only[checkBuiltinCall,hk,hsplit]
   refine wpAny_bind ?_
   refine L3.at ?_
   repeat (first|assumption|wp_step)
 refine chk ?_
 show wpAny _ _ (Builtin.«object.__getattribute__» ⟨[.ref a, .str "__class__" t], []⟩) _ _ _
 unfold Builtin.«object.__getattribute__»
 refine wpAny_bind (wpAny_pure ?_)
 refine wpAny_bind (wpAny_pure ?_)
 refine wpAny_bind (L0.at (wpAny_bind (L4.at ?_)))
 dsimp only
 show wpAny _ _ (holding [Value.builtin "object.__class__"] (call (.builtin "getset_descriptor.__get__") [.builtin "object.__class__",.ref a,.ref C])>>=ret) _ _ _
 refine wpAny_bind (wpAny_holding (wpAny_call (class_get (s:=⟨hp,g,d,t+1,os⟩) X I F.ob (wpAny_pure ?_))))
 exact handed_on rfl (wpAny_pure h)
noncomputable def A2a (X:Cx):Prop:=X.A.handled=none\/∃x o u vs,X.A.handled=some (.ref x)/\X.H₀ x=some (.frz o u)/\o.data= .fields vs/\vs[2]?=some .none
section
variable{X:Cx}{pins:List (Addr×Obj)}{σ:St}{H:Hp}{s:Shared}
end
section
variable{X:Cx}{tg:Expr}
end
theorem B7x{prog:Program}{w:World}{A:Around}{s:Shared}{elt target iter:Expr}{scope:Scope}{pos:Pos}{it acc:Value}{env:Env}{R:Result ->Shared ->Prop}(I:Nat ->Shared ->Prop)
   (turn :∀n s,I n s ->wpAny (model prog w) A (pyNext it) (fun r s₁=>match r with
     |none=>R (.ok .next) s₁
     |some v=>wpAny (model prog w) A (letOwnedTupleGo target it v) (fun _ s₀=>wpAny (model prog w) A (assign target env v) (fun _ s₂=>wpAny (model prog w) A (eval elt env) (fun x s₄=>
         wpAny (model prog w) A (call (.builtin "list.append") [acc,x]) (fun _ s₅=>∃m,m<n/\I m s₅) (notedBy (model prog w) A env fun e s'=>R (.error e) s') s₄) (notedBy (model prog w) A env fun e s'=>R (.error e) s') s₂)
         (notedBy (model prog w) A env fun e s'=>R (.error e) s') s₀) (notedBy (model prog w) A env fun e s'=>R (.error e) s') s₁) (notedBy (model prog w) A env fun e s'=>R (.error e) s') s)
   (n:Nat) (h:I n s):codeAny (model prog w) A (.compLoop (.ListComp elt [⟨target,iter,[],0⟩] scope pos) 0 it acc env) R s:=by
 refine codeAny_loop rfl I (fun n s hI=>?_) n h
 show wpAny _ A ((compTurn (.ListComp elt [⟨target,iter,[],0⟩] scope pos) 0 it acc env).onRaise (fun x=>do noteFrame x env;theTreesLotGoes x)) _ _ s
 refine wpAny_noted ?_;rw[compTurn_list1]
 refine wpAny_bind (wpAny_standAt (wpAny_bind (wpAny_mono (turn n s hI) (fun r s₁ h₁=>?_) fun _ _ z=>z)))
 cases r with
 |none=>exact wpAny_pure h₁
 | some v=>
   refine wpAny_bind (wpAny_mono h₁ (fun _ s₀ q₀=>?_) fun _ _ z=>z)
   refine wpAny_bind (wpAny_mono q₀ (fun _ s₂ q₂=>?_) fun _ _ z=>z)
   exact wpAny_bind (wpAny_bind (wpAny_mono q₂ (fun x s₄ q₄=>wpAny_bind (wpAny_mono q₄ (fun _ s₅ q₅=>wpAny_pure (wpAny_pure ⟨rfl,q₅⟩)) fun _ _ z=>z)) fun _ _ z=>z))
section
variable{X:Cx}
theorem C3w{pins:List (Addr×Obj)}{σ:St}{H:Hp}{s:Shared}{C:Addr}{h':Heap}(I:Inv X pins σ H s)(f:A2y X pins H C)(sb:Heap.SameBut C s.heap h'):Inv X pins σ H {s with heap:=h'}:=
 I.turned (t':=s.toks) (fun b o hb e=>(sb.2 b hb).trans e) f.1 f.2.1 f.2.2.2.1 f.2.2.2.2.1 f.2.2.2.2.2
end
section
variable{X:Cx}{a b c:Expr}{ta tb tc:TE}{pos:Pos}
theorem Z7:OpR X (binaryOp .Mult) (rI IntMulOk fun i j=> .int (i*j)):=opI fun _ _ _ _ _ _ _ hc q=>mul_int q hc
theorem A0n:OpR X (binaryOp .FloorDiv) (rI (fun _ j=>0<j/\j.natAbs.log2<9000) fun i j=> .int (i/j)):=opI fun i j _ _ _ _ _ hc q=>by
 have h1:(0:Int)<j:=hc.1
 exact floordiv_int (by omega) (by rw[Int.fdiv_eq_ediv_of_nonneg i (by omega)];exact q) (.inl (PyProof.noPylong_of_log2 hc.2))
theorem A3p{i:Int}{k:Nat}(h:i.natAbs<2^k)(hk:0<k):i.natAbs.log2<k:=by
 by_cases z:i.natAbs=0
 . rw[z];simpa using hk
 exact(Nat.log2_lt z).mpr h
inductive TyE(K:Frag)(H:Hp):V ->Value ->Prop where
 |of {x:V} {t:Value} (h:A9p K H x t):TyE K H x t
 |exc {a C:Addr} {t:XT} {T:Value} {u:HO} (e:H a=some (.frz (A0d (.ref C) t none T) u)) (k:C3c K C):TyE K H (.ref a) (.ref C)
 |excD {a C:Addr} {t:XT} {T:Value} {d:Addr} {u:HO} {fs:List (Str×V)} (e:H a=some (.frz (A0d (.ref C) t (some d) T) u)) (hd:H d=some (.xd fs)) (k:C3c K C):TyE K H (.ref a) (.ref C)
 |tupK {a:Addr} {o:Obj} (l:K.lookup a=some o) (c:o.cls= .type "tuple"):TyE K H (.ref a) (.type "tuple")
theorem C2y{pins:List (Addr×Obj)}{σ:St}{H:Hp}{s:Shared}{A:Around}{E:Value ->Shared ->Prop}{Q:Value ->Shared ->Prop}{c:Value}{b:Bool}{x:V}{u t:Value}(I:Inv X pins σ H s)(rx:U4 x u)(ty:TyE X.K H x t)
   (e:kitOne X.K t c=some b) (h:∀tk,Q (.bool b) {s with toks:=tk}):wpAny (model X.prog X.w) A (call (.builtin "isinstance") [u,c]) Q E s:=by
 cases ty with
 |of h'=>exact C7g I rx h' e h
 | exc ea k=>
   cases rx
   rename_i a C t0 T u0
   have o1:s.heap.get? a=some (A0d (.ref C) t0 none T):=(I.hok a _ ea).1
   refine kia_one (H:=fun h=>PySem.W.InstAt h a (A0d (.ref C) t0 none T) C none) ?_ I.kIn ⟨o1,rfl,rfl,trivial⟩ e (fun z=>nomatch z) h
   refine⟨fun M h _ J=>J.type,fun M h K _=>A3q K k.cl,fun h tp dd its n sl K htp=>?_,fun K J q=>A4p k K J q⟩
   refine Bool.eq_false_iff.mpr fun q=>?_
   have e:C=tp:=Value.ref.inj (beq_iff_eq.mp q)
   subst e
   have z:=k.cl
   unfold clsIn at z
   split at z
   . rename_i ho
     have y:=(K _ _ ho).symm.trans htp
     cases y
   . cases z
 | tupK l c=>
   cases rx
   exact PySem.W.kia_one PySem.W.kitx_tuple I.kIn ⟨_,I.kIn _ _ l,c⟩ e (fun z=>nomatch z) h
 | excD ea hd k=>
   cases rx
   rename_i a C t0 T d u0 fs
   have o1:s.heap.get? a=some (A0d (.ref C) t0 (some d) T):=(I.hok a _ ea).1
   obtain⟨mA,nA,_⟩:=(show∃mA,s.heap.Ns1 d mA/\∀f,A4c (fs.lookup f) (mA f) from I.hok d _ hd)
   obtain⟨od,o2,_⟩:=A8z nA
   refine kia_one (H:=fun h=>PySem.W.InstAt h a (A0d (.ref C) t0 (some d) T) C (some od)) ?_ I.kIn ⟨o1,rfl,rfl,o2⟩ e (fun z=>nomatch z) h
   refine⟨fun M h _ J=>J.type,fun M h K _=>A3q K k.cl,fun h tp dd its n sl K htp=>?_,fun K J q=>A4p k K J q⟩
   refine Bool.eq_false_iff.mpr fun q=>?_
   have e:C=tp:=Value.ref.inj (beq_iff_eq.mp q)
   subst e
   have z:=k.cl
   unfold clsIn at z
   split at z
   . rename_i ho
     have y:=(K _ _ ho).symm.trans htp
     cases y
   . cases z
noncomputable def G5e:V ->Option Value
 | .ty n=>some (.type n)
 | .ref a=>some (.ref a)
 |_=>none
theorem B8a:A3z X (.builtin "isinstance") (fun xs H Q=>∃x c cv t b,xs=[x,c]/\G5e c=some cv/\TyE X.K H x t/\kitOne X.K t cv=some b/\Q (.bl b) H):=by
 intro pins s σ H xs us Q I r h
 obtain⟨x,c,cv,t,b,rfl,hc,ty,e,q⟩:=h
 obtain⟨u,v,rfl,ru,rv⟩:=J0.two r
 have:v=cv:=by
   cases c<;>simp only[G5e] at hc<;>first|(cases hc;exact rv)|cases hc
 subst this
 exact C2y I ru ty e fun tk=>⟨.bl b,H,I.tok tk,rfl,q⟩
mutual
inductive RdD(K:Frag)(H:Hp):V ->PyData ->Prop where
 |non:RdD K H .non .none
 |bl (b:Bool):RdD K H (.bl b) (.bool b)
 |int (i:Int):RdD K H (.int i) (.int i)
 |str (x:Str):RdD K H (.str x) (.str x)
 |tup {a:Addr} {xs:List V} {ds:List PyData} (h:SqT K H a xs) (r:B2z K H xs ds):RdD K H (.ref a) (.tuple ds)
 |lst {a:Addr} {xs:List V} {ds:List PyData} (h:SqL K H a xs) (r:B2z K H xs ds):RdD K H (.ref a) (.list ds)
inductive B2z(K:Frag)(H:Hp):List V ->List PyData ->Prop where
 |nil:B2z K H [] []
 |cons {x:V} {xs:List V} {d:PyData} {ds:List PyData} (h:RdD K H x d) (r:B2z K H xs ds):B2z K H (x::xs) (d::ds)
end
mutual
theorem RdD.reads{pins:List (Addr×Obj)}{σ:St}{H:Hp}{s:Shared}(I:Inv X pins σ H s):∀{x:V} {d:PyData} {u:Value},RdD X.K H x d ->U4 x u ->∃as,Reads s.heap u d as
 |_,_,_,.non,r=>by cases r;exact⟨_,.none⟩
 |_,_,_,.bl b,r=>by cases r;exact⟨_,.bool b⟩
 |_,_,_,.int i,r=>by obtain⟨t,rfl⟩:=r;exact⟨_,.int i t⟩
 |_,_,_,.str x,r=>by obtain⟨t,rfl⟩:=r;exact⟨_,.str x t⟩
 | _,_,_,.tup h q,r=>by
   cases r
   obtain⟨its,rv,⟨o,e,c,n,d⟩,_⟩:=I.tuple h
   obtain⟨as,z⟩:=B2z.reads I q rv
   exact⟨_,reads_tuple_at e c d (by simpa using z)⟩
 | _,_,_,.lst h q,r=>by
   cases r
   obtain⟨its,rv,p,_⟩:=I.list h
   obtain⟨o,e,c,n,d⟩:=p.isList
   obtain⟨as,z⟩:=B2z.reads I q rv
   exact⟨_,reads_list_at e c d (by simpa using z)⟩
theorem B2z.reads{pins:List (Addr×Obj)}{σ:St}{H:Hp}{s:Shared}(I:Inv X pins σ H s):∀{xs:List V} {ds:List PyData} {us:List Value},B2z X.K H xs ds ->J0 xs us ->∃as,ReadsAll s.heap us ds as
 |_,_,_,.nil,r=>by cases r;exact⟨_,.nil⟩
 | _,_,_,.cons h q,r=>by
   cases r with
   | cons r1 r2=>
     obtain⟨as,z⟩:=RdD.reads I h r1
     obtain⟨bs,y⟩:=B2z.reads I q r2
     exact⟨_,.cons z y⟩
end
noncomputable def J4e (K:Frag) (n:Bool):R2:=fun x y H Q=>∃d e,RdD K H x d/\RdD K H y e/\SeqAt.shaped d=true/\SeqAt.shaped e=true/\Q (.bl (if n then !PyData.eqv d e else PyData.eqv d e)) H
theorem C9t(hu:X.A.units+64<cLine):OpR X (compareOp .Eq) (J4e X.K false):=by
 intro pins s σ H x y v u Q I rx ry q
 obtain⟨d,e,hx,hy,sd,se,q⟩:=q
 obtain⟨as,z⟩:=hx.reads I rx
 obtain⟨bs,z'⟩:=hy.reads I ry
 exact eq_dataH z z' sd se hu ⟨.bl (PyData.eqv d e),H,I,rfl,q⟩
theorem G7n(hu:X.A.units+64<cLine):OpR X (compareOp .NotEq) (J4e X.K true):=by
 intro pins s σ H x y v u Q I rx ry q
 obtain⟨d,e,hx,hy,sd,se,q⟩:=q
 obtain⟨as,z⟩:=hx.reads I rx
 obtain⟨bs,z'⟩:=hy.reads I ry
 exact ne_dataH z z' sd se hu ⟨.bl (!PyData.eqv d e),H,I,rfl,q⟩
theorem D2q(hc:X.A.handled=none):A3z X (.builtin "any") (fun xs H Q=>∃(l:Addr) (bs:List Bool),xs=[.ref l]/\SqL X.K H l (bs.map V.bl)/\Q (.bl (bs.any id)) H):=by
 intro pins s σ H xs us Q I r h
 obtain⟨l,bs,rfl,hl,q⟩:=h
 obtain⟨u,rfl,ru⟩:=J0.one r
 cases ru
 obtain⟨its,rv,p,hz⟩:=I.list hl
 obtain⟨o,e,_⟩:=id p.isList
 have hlt:l<s.heap.objs.size:=Heap.lt_size e
 have hlen:its.length=bs.length:=by rw[<-rv.length,List.length_map]
 refine call_any_walk (wpAny_pyIter_list p.isList ?_)
 refine⟨s.heap.objs.size,[s.heap.objs.size,l],[s.heap.objs.size],its.toArray.size,_,_,fun i=>(bs[i]?).getD false,rfl,Walks.list (A:=X.A.in1) hc _ l (Nat.ne_of_lt hlt) its.toArray,⟨⟨_,Heap.get?_push_size _ rfl,rfl,rfl⟩,p.isList.push _⟩,fun i v s' Q' E' hP hQ=>?_,fun h' tk hk=>?_⟩
 . have hP:its[i]?=some v:=by simpa using hP
   have hi:i<bs.length:=by rw[<-hlen];exact(List.getElem?_eq_some_iff.mp hP).1
   obtain⟨u',hu',ru'⟩:=rv.get (i:=i) (x:=V.bl bs[i]) (by simp[hi])
   rw[hP] at hu'
   cases hu'
   cases ru'
   have z:(bs[i]?).getD false=bs[i]:=by simp[hi]
   dsimp only at hQ
   rw[z] at hQ
   exact wpAny_truthy_bool hQ
 have z:((List.range its.toArray.size).any fun i=>(bs[i]?).getD false)=bs.any id:=by
   rw[List.size_toArray,hlen]
   exact LSm.range_any bs
 rw[z]
 exact⟨.bl (bs.any id),H,I.kept fun b x e=>hk b x (fun hm=>by rw[List.mem_singleton.mp hm] at e;exact Nat.lt_irrefl _ (Heap.lt_size e)) (Heap.get?_push_of_some _ e),rfl,q⟩
inductive C0a(X:Cx):Expr ->TE ->Prop where
 |lit {x:Str} {j:Nat} {pos:Pos}:C0a X (.Constant (.str x) j pos) (tC (.str x))
 |int {v:Expr} {tv:TE} {pos:Pos} (h:PE X v tv):C0a X (.FormattedValue v (-1) none pos) (fun σ H Q=>tv σ H fun y H1=>∃i,y= .int i/\i.natAbs.log2<1920/\Q (.str (toString i)) H1)
theorem C0a.pe{e:Expr}{t:TE}(h:C0a X e t):PE X e t:=by
 cases h with
 |lit=>exact A3
 | int h=>
   intro pins s σ H Q I q
   refine FormattedValue_plain (thn (h pins s σ H _ I q) fun u s1 hh_=>?_)
   obtain⟨y,H1,I1,r,i,e,l,q⟩:=hh_
   subst e
   obtain⟨t,rfl⟩:=r
   exact formatField_int_small l ⟨.str (toString i),H1,I1.tok _,⟨_,rfl⟩,q⟩
inductive A9q(X:Cx):List Expr ->(Str ->TE) ->Prop where
 |nil:A9q X [] (fun out _ H Q=>out.length<=sizeLine/\Q (.str out) H)
 |cons {e:Expr} {es:List Expr} {t:TE} {r:Str ->TE} (h:C0a X e t) (hr:A9q X es r):A9q X (e::es) (fun out σ H Q=>t σ H fun x H1=>∃y,x= .str y/\(out++y).length<=sizeLine/\r (out++y) σ H1 Q)
theorem A9q.run{es:List Expr}{t:Str ->TE}(h:A9q X es t):∀(out:Str) (pins:List (Addr×Obj)) (s:Shared) (σ:St) (H:Hp) (Q:VK),Inv X pins σ H s ->t out σ H Q ->
   wpAny (model X.prog X.w) X.A (joinParts out (evalEach es X.env)) (EP X pins σ Q) X.xe s:=by
 induction h with
 | nil=>
   intro out pins s σ H Q I q
   exact joinParts_nil ⟨.str out,H,I.tok _,⟨_,rfl⟩,q.2⟩ q.1
 | @cons e es t r h hr ih=>
   intro out pins s σ H Q I q
   show wpAny _ _ (joinParts out (eval e X.env::evalEach es X.env)) _ _ _
   refine joinParts_cons (thn (h.pe pins s σ H _ I q) fun u s1 hh_=>?_)
   obtain⟨x,H1,I1,rx,y,ey,z,q⟩:=hh_
   subst ey
   obtain⟨t',rfl⟩:=rx
   exact⟨z,ih _ pins s1 σ H1 Q I1 q⟩
theorem B6r{e1 e2:Expr}{es:List Expr}{t:Str ->TE}{pos:Pos}(h:A9q X (e1::e2::es) t):PE X (.JoinedStr (e1::e2::es) pos) (t Str.empty):=by
 intro pins s σ H Q I q
 exact JoinedStr_many (h.run _ pins s σ H Q I q)
end
section
variable{P:Program}{w:World}{K:Frag}{mg:Str ->Option Value}{base:Heap}
end
section
variable{X:Cx}{k:Nat}{f:Addr}{fd:FuncData}{ps:List Str}{sp:Sp}{x:Str}{p pos:Pos}{e:Expr}{es:List Expr}{t:TA}
end
noncomputable abbrev EKF:EK:=fun _ _ _ _=>False
theorem Y8{X:Cx}:G7 X EKF:=fun _ _ _ _ _ _ _ _ _ _ h=>h.elim
structure Def(K:Frag)(mg:Str ->Option Value)(x:Str)(ps:List Str)(st:Stmt)(f:Addr)(fd:FuncData):Prop where
 F:Fun K x x st f fd
 g:mg x=some (.ref f)
 b:Binds K fd ps []
theorem A8x{K:Frag}{h:Heap}{mg:Str ->Option Value}{x:Str}{ps:List Str}{st:Stmt}{f:Addr}{oc:Value}{od an:Option Addr}{osl:Array (Option Value)}{kV doc pm cdv ct:Value}(X:K.In h)(G:h.Ns mainGlobals mg)
   (a:nsIn K mainGlobals x=some (some (.ref f))) (l:K.lookup f=some ⟨oc,od,.func (fnOf x x (J9 st) (G8 st) (A4 st) .none kV doc pm an cdv ct),osl⟩) (c:codeIn K cdv x=true) (k:keepIn K (.ref f)=true)
   (hb:∀(kV doc pm:Value) (an:Option Addr) (cdv ct:Value) (us:List Value),us.length=ps.length ->bindArgs (fnOf x x (J9 st) (G8 st) (A4 st) .none kV doc pm an cdv ct) ⟨us,[]⟩=pure (ps.zip us)):
   Def K mg x ps st f (fnOf x x (J9 st) (G8 st) (A4 st) .none kV doc pm an cdv ct):=
 ⟨A1v (st:=st) l c k,mg_of X G a,(A1v (st:=st) l c k).binds hb⟩
theorem A0s{c A B:Prop} [Decidable c] (h:¬c) (b:B):if decide c=true then A else B:=by rw[decide_eq_false h];exact V1 b
theorem A0y{c A B:Prop} [Decidable c] (h:c) (a:A):if decide c=true then A else B:=by rw[decide_eq_true h];exact Y1 a
theorem U6{c A B:Prop} [Decidable c] (a:c ->A) (b:¬c ->B):if decide c=true then A else B:=by
 by_cases h:c
 . exact A0y h (a h)
 exact A0s h (b h)
noncomputable def C3s (t:TS):TS:=fun D σ H=>∃J:St ->Hp ->Prop,t {D with nx:=J} σ H/\∀σ' H',J σ' H' ->D.nx σ' H'
theorem B7{X:Cx}{st:Stmt}{t:TS}(h:PS X st t):PS X st (C3s t):=by
 intro pins s σ H D I q
 obtain⟨J,q,k⟩:=q
 refine thn (h pins s σ H _ I q) fun f s' z=>?_
 cases f with
 |next=>obtain⟨σ',H',I',y⟩:=z;exact⟨σ',H',I',k _ _ y⟩
 |brk=>exact z
 |cont=>exact z
 |ret u=>exact z
theorem B5.upd{H:Hp}{p:Addr}{o:HO}(h:H p=none):B5 H (L2.upd H p o):=fun b u e=>by rw[C9 (D5 e h)];exact e
theorem B8{n:Nat}(h:n<=1000):n<=sizeLine:=Nat.le_of_lt (Y6 h)
section
variable{X:Cx}{k j:Nat}{f:Addr}{fd:FuncData}{ps:List Str}{sp:Sp}{EH:EK}{x:Str}{st:Stmt}{p pos:Pos}{e:Expr}{es:List Expr}{t:TA}
theorem C8(D:Def X.K X.mg x ps st f fd)(F:A9 X.prog X.w X.K X.mg X.base (CX1 X.prog X.w) j f fd ps sp)(hr:Y9 k X.A)(hx:G7 X EH)(ha:PA X (e::es) t)(hj:j<=k:=by decide)(hg:Gl X x:=by rfl)(hex:X.ex=[]:=by rfl)(hdb:(x==("__debug__":Str))=false:=by decide)
   (he:starEach (e::es) X.env=(false,eval e X.env)::starEach es X.env:=by rfl) (hpl:(backTo pos (starEach es X.env)).any (·.1)=false:=by rfl):PE X (.Call (.Name x p) (e::es) [] pos) (A8u sp [] EH t):=
 D1p (F.mono hj) hr hg D.g D.F.kp D.b .nil hx ha hex hdb he hpl
theorem B5k(D:Def X.K X.mg x ps st f fd)(F:A9 X.prog X.w X.K X.mg X.base (CX1 X.prog X.w) j f fd ps sp)(hr:Y9 k X.A)(hx:G7 X EH)(hj:j<=k:=by decide)(hg:Gl X x:=by rfl)(hex:X.ex=[]:=by rfl)(hdb:(x==("__debug__":Str))=false:=by decide):
   PE X (.Call (.Name x p) [] [] pos) (A8u sp [] EH B3m):=
 C6v (F.mono hj) hr hg D.g D.F.kp D.b .nil hx hex hdb
theorem pty{n:Str}{T:String}(hm:X.mg n=none)(hv:bootBuiltins n=some (.type T))(hg:Gl X n:=by rfl)(hn:n≠"__name__":=by decide)(hdb:(n==("__debug__":Str))=false:=by decide):PE X (.Name n pos) (tC (.ty T)):=G0z hg hm hv rfl hn hdb
theorem C9v{n:Str}{C:Addr}(hm:X.mg n=some (.ref C))(hg:Gl X n:=by rfl)(hdb:(n==("__debug__":Str))=false:=by decide):PE X (.Name n pos) (tC (.ref C)):=G2h hg hm rfl hdb
theorem B9g{a b:Expr}{ta tb:TE}(hm:X.mg "isinstance"=none)(ha:PE X a ta)(hb:PE X b tb)(hg:Gl X "isinstance":=by rfl)
   (h1:starEach [a,b] X.env=(false,eval a X.env)::starEach [b] X.env:=by rfl) (h2:starEach [b] X.env=(false,eval b X.env)::starEach [] X.env:=by rfl) (h3:(backTo pos (starEach [b] X.env)).any (·.1)=false:=by rfl):
   PE X (.Call (.Name "isinstance" p) [a,b] [] pos) (tCB (fun xs H Q=>∃x c cv t b,xs=[x,c]/\G5e c=some cv/\TyE X.K H x t/\kitOne X.K t cv=some b/\Q (.bl b) H) (A8a ta (A8a tb B3m))):=
 U2 B8a hg hm boot_isinstance (A0 ha (A0 hb A1 h2) h1) (he:=h1) (hpl:=h3)
end
section
variable{X:Cx}{k j:Nat}{f:Addr}{fd:FuncData}{ps:List Str}{sp:Sp}{x:Str}{st:Stmt}{p pos:Pos}{e:Expr}{es:List Expr}{t:TA}
end
structure Mk0(K:Frag)(C:Addr):Prop where
 makes:makesIn K C=true
 init:findIn K (.ref C) "__init__"=some (some (.builtin "object.__init__"))
 kp:keepIn K (.ref C)=true
section
variable{X:Cx}{k j:Nat}{f C:Addr}{fd:FuncData}{ps:List Str}{sp:Sp}{dvs:List V}{ds:List Value}{EH:EK}{x m:Str}{p pos apos:Pos}{e o:Expr}{es:List Expr}{ta:TE}{t:TA}
noncomputable def G6t (C:Addr):TE:=fun _ H Q=>∀x dx,H x=none ->H dx=none ->dx≠x ->Q (.ref x) (upd (upd H dx (.own x)) x (.ins C dx []))
theorem G2w{pins:List (Addr×Obj)}{σ:St}{H:Hp}{s:Shared}{Q:VK}(M:Mk0 X.K C)(I:Inv X pins σ H s)(h:G6t C σ H Q):wpAny (model X.prog X.w) X.A (call (.ref C) []) (EP X pins σ Q) X.xe s:=by
 have hq:=h (s.heap.objs.size+1) s.heap.objs.size (I.hok.fresh (Nat.le_succ _)) (I.hok.fresh (Nat.le_refl _)) (Nat.ne_of_lt (Nat.lt_succ_self _))
 have I2:=Inv.made (C:=C) I
 have Y:=makes_of (M:=model X.prog X.w) I.kIn M.makes
 refine wpAny_call (C6s I.kIn M.makes M.init (fun self=>Looks.of_pure (oi_bind self)) ?_)
 have e2:((s.heap.push emptyDict).push (instObj C s.heap.objs.size)).get? (s.heap.objs.size+1)=some (instObj C s.heap.objs.size):=by
   have:=Heap.get?_push_size (s.heap.push emptyDict) (o:=instObj C s.heap.objs.size) rfl
   rwa[Heap.size_push] at this
 have t1:Looks (model X.prog X.w) ((s.heap.push emptyDict).push (instObj C s.heap.objs.size)) (typeOf (.ref (s.heap.objs.size+1))) (.ref C):=(Looks.ld e2).andThen .now
 have t2:Looks (model X.prog X.w) ((s.heap.push emptyDict).push (instObj C s.heap.objs.size)) (isInstance (.ref (s.heap.objs.size+1)) (.type "object")) true:=t1.andThen (Y.top.keeps fun b o e=>Heap.get?_push_of_some _ (Heap.get?_push_of_some _ e))
 refine codeAny_call_builtin oi_plain entry_oi (@check_slot (model X.prog X.w) _ _ _ "object.__init__" "object" "__init__" (.ref (s.heap.objs.size+1)) [] [] _ oi_kind oi_split t2 (oi_args (.ref (s.heap.objs.size+1))) ?_)
 rw[oi_run]
 exact wpAny_pure (And.intro rfl ⟨V.ref (s.heap.objs.size+1),_,I2,rfl,hq⟩)
theorem A4j(M:Mk0 X.K C)(hg:Gl X x)(hm:X.mg x=some (.ref C))(hdb:(x==("__debug__":Str))=false:=by decide):PE X (.Call (.Name x p) [] [] pos) (G6t C):=by
 intro pins s σ H Q I h
 refine wpAny_Call_Name_kw (Z8 I hg hm ?_ hdb)
 exact callWith_K0 I.kIn M.kp (G2w M I h)
noncomputable def D1h (C:Addr) (m:Str) (sp:Sp) (dvs:List V) (EH:EK) (ta:TE) (t:TA):TE:=fun σ H Q=>ta σ H fun x H1=>∃a dx fs,x= .ref a/\H1 a=some (.ins C dx fs)/\fs.lookup m=none/\
 t σ H1 fun vs H2=>sp (x::(vs++dvs)) H2 Q (fun C d H'=>EH C d σ H')
theorem A4g{pl:Sem Bool}(he:PE X o ta)(c:Cls X.K C)(hm:B3p X.K C m f)(F:A9 X.prog X.w X.K X.mg X.base (CX1 X.prog X.w) j f fd ps sp)(hr:Y9 k X.A)(hb:Binds X.K fd ps ds)(hd:J0 dvs ds)(hx:G7 X EH)(ha:PA X (e::es) t)
   (hj:j<=k:=by decide) (hex:X.ex=[]:=by rfl)
   (hst:starEach (e::es) X.env=(false,eval e X.env)::starEach es X.env:=by rfl) (hpl:(backTo pos (starEach es X.env)).any (·.1)=false:=by rfl)
   (ht:eval (.Call (.Attribute o m apos) (e::es) [] pos) X.env=(do
     let ov<-eval o X.env
     standAt apos.atName
     let(f,first)<-holding [ov] (getMethod ov m pl)
     callWith pos f first (backTo pos (starEach (e::es) X.env)) (backToKw pos (keywordEach [] X.env))):=by rfl):
   PE X (.Call (.Attribute o m apos) (e::es) [] pos) (D1h C m sp dvs EH ta t):=by
 intro pins s σ H Q I h
 refine methodCall_KW (pl:=pl) (thn (he pins s σ H _ I h) fun u s1 hh_=>?_) ht
 obtain⟨x,H1,I1,rx,a,dx,fs,ex,ea,l,q⟩:=hh_
 subst ex
 obtain rfl:u=Value.ref a:=rx
 refine B2b I1 ea c hm l ?_
 refine callWith_K (first:=[.ref a]) (h₀:=X.base) I.ok.mod.kin hm.kp (thn (ha pos pins s1 σ H1 _ I1 q) fun us s2 ⟨vs,H2,I2,r,q2⟩=>⟨I2.kIn,?_⟩) hst hpl
 exact B0y (us:= .ref a::us) (vs:= .ref a::vs) (F.mono hj) hr hb hd hx hex I2 (.cons rfl r) q2
theorem A0g{pl:Sem Bool}(he:PE X o ta)(c:Cls X.K C)(hm:B3p X.K C m f)(F:A9 X.prog X.w X.K X.mg X.base (CX1 X.prog X.w) j f fd ps sp)(hr:Y9 k X.A)(hb:Binds X.K fd ps ds)(hd:J0 dvs ds)(hx:G7 X EH)
   (hj:j<=k:=by decide) (hex:X.ex=[]:=by rfl)
   (ht:eval (.Call (.Attribute o m apos) [] [] pos) X.env=(do
     let ov<-eval o X.env
     standAt apos.atName
     let(f,first)<-holding [ov] (getMethod ov m pl)
     callWith pos f first (backTo pos (starEach [] X.env)) (backToKw pos (keywordEach [] X.env))):=by rfl):
   PE X (.Call (.Attribute o m apos) [] [] pos) (D1h C m sp dvs EH ta B3m):=by
 intro pins s σ H Q I h
 refine methodCall_KW (pl:=pl) (thn (he pins s σ H _ I h) fun u s1 hh_=>?_) ht
 obtain⟨x,H1,I1,rx,a,dx,fs,ex,ea,l,q⟩:=hh_
 subst ex
 obtain rfl:u=Value.ref a:=rx
 refine B2b I1 ea c hm l ?_
 exact callWith_K0 (first:=[.ref a]) I1.kIn hm.kp (B0y (us:=[.ref a]) (vs:=[.ref a]) (F.mono hj) hr hb hd hx hex I1 (.cons rfl .nil) q)
noncomputable def D2e (C:Addr) (sp:Sp) (dvs:List V) (EH:EK) (t:TA):TE:=fun σ H Q=>t σ H fun vs H1=>∀x dx,H1 x=none ->H1 dx=none ->dx≠x ->
 sp (.ref x::(vs++dvs)) (upd (upd H1 dx (.own x)) x (.ins C dx [])) (fun v H2=>v= .non/\Q (.ref x) H2) (fun C d H'=>EH C d σ H')
theorem B4m{pins:List (Addr×Obj)}{σ:St}{H:Hp}{s:Shared}{Q:VK}{us:List Value}{vs:List V}(M:Mk X.K C f)(F:A9 X.prog X.w X.K X.mg X.base (CX1 X.prog X.w) k f fd ps sp)(hr:Y9 (k+1) X.A)(hb:Binds X.K fd ps ds)(hd:J0 dvs ds)
   (hx:G7 X EH) (hex:X.ex=[]) (I:Inv X pins σ H s) (r:J0 vs us)
   (h:∀x dx,H x=none ->H dx=none ->dx≠x ->sp (.ref x::(vs++dvs)) (upd (upd H dx (.own x)) x (.ins C dx [])) (fun v H2=>v= .non/\Q (.ref x) H2) (fun C d H'=>EH C d σ H')):
   wpAny (model X.prog X.w) X.A (call (.ref C) us) (EP X pins σ Q) X.xe s:=by
 have hq:=h (s.heap.objs.size+1) s.heap.objs.size (I.hok.fresh (Nat.le_succ _)) (I.hok.fresh (Nat.le_refl _)) (Nat.ne_of_lt (Nat.lt_succ_self _))
 have I2:=Inv.made (C:=C) I
 have r2:J0 (V.ref (s.heap.objs.size+1)::(vs++dvs)) (Value.ref (s.heap.objs.size+1)::(us++ds)):= .cons rfl (r.append hd)
 have hl:(Value.ref (s.heap.objs.size+1)::us++ds).length=ps.length:=by
   have e:=r2.length
   rw[F.len _ _ _ _ hq] at e
   exact e.symm
 refine wpAny_call (B9q (f:=f) I.kIn M.makes M.init (beq_iff_eq.mp M.fn) (codeAny_mono (F.run _ X.stack _ _ ⟨Value.ref (s.heap.objs.size+1)::us,[]⟩ (Value.ref (s.heap.objs.size+1)::(us++ds)) _ _ _ (hr.make C us [])
   (I2.env0.make C us []) (hb _ (Value.ref (s.heap.objs.size+1)::us) I2.kIn hl) r2 hq) fun r s' hq'=>?_))
 cases r with
 |error e=>exact G5n hx hex I2 hq'
 | ok fl=>
   cases fl with
   | ret u=>
     obtain⟨v,H',I3,rv,ev,q3⟩:=I2.after hq'
     subst ev
     exact⟨rv,⟨V.ref (s.heap.objs.size+1),H',I3,rfl,q3⟩⟩
   |next=>exact False.elim hq'
   |brk=>exact False.elim hq'
   |cont=>exact False.elim hq'
theorem A5y(M:Mk X.K C f)(F:A9 X.prog X.w X.K X.mg X.base (CX1 X.prog X.w) j f fd ps sp)(hr:Y9 k X.A)(hm:X.mg x=some (.ref C))(hb:Binds X.K fd ps ds)(hd:J0 dvs ds)(hx:G7 X EH)
   (ha:PA X (e::es) t) (hj:j+1<=k:=by decide) (hg:Gl X x:=by rfl) (hex:X.ex=[]:=by rfl) (hdb:(x==("__debug__":Str))=false:=by decide) (he:starEach (e::es) X.env=(false,eval e X.env)::starEach es X.env:=by rfl) (hpl:(backTo pos (starEach es X.env)).any (·.1)=false:=by rfl):
   PE X (.Call (.Name x p) (e::es) [] pos) (D2e C sp dvs EH t):=by
 intro pins s σ H Q I h
 refine wpAny_Call_Name_kw (Z8 I hg hm ?_ hdb)
 refine callWith_K (h₀:=X.base) I.ok.mod.kin M.kp (thn (ha pos pins s σ H _ I h) fun us s1 ⟨vs,H1,I1,r,q⟩=>⟨I1.kIn,?_⟩) he hpl
 exact B4m M F (hr.mono hj) hb hd hx hex I1 r q
theorem C8s(M:Mk X.K C f)(F:A9 X.prog X.w X.K X.mg X.base (CX1 X.prog X.w) j f fd ps sp)(hr:Y9 k X.A)(hm:X.mg x=some (.ref C))(hb:Binds X.K fd ps ds)(hd:J0 dvs ds)(hx:G7 X EH)
   (hj:j+1<=k:=by decide) (hg:Gl X x:=by rfl) (hex:X.ex=[]:=by rfl) (hdb:(x==("__debug__":Str))=false:=by decide):PE X (.Call (.Name x p) [] [] pos) (D2e C sp dvs EH B3m):=by
 intro pins s σ H Q I h
 refine wpAny_Call_Name_kw (Z8 I hg hm ?_ hdb)
 exact callWith_K0 I.kIn M.kp (B4m (us:=[]) M F (hr.mono hj) hb hd hx hex I .nil h)
end
theorem B1a{n:Nat}(h:n<=sizeLine):Builtin.Str.tooLong n=false:=by
 unfold Builtin.Str.tooLong
 exact decide_eq_false (by omega)
section
variable{X:Cx}
theorem C4k:∀{zs:List Str} {us:List Value},J0 (zs.map V.str) us ->∃l:List (Str×Tok),us=strValues l/\l.map (·.1)=zs
 | [],_,r=>by cases r;exact⟨[],rfl,rfl⟩
 | z ::zs,_,r=>by
   cases r with
   | cons h t=>
     obtain⟨l,rfl,e⟩:=C4k t
     obtain⟨k,rfl⟩:=(show∃k,_=Value.str z k from h)
     exact⟨(z,k)::l,rfl,by rw[List.map_cons,e]⟩
noncomputable def J3n (K:Frag):V ->List V ->Hp ->VK ->Prop:=fun x vs H Q=>∃z l zs,x= .str z/\vs=[.ref l]/\SqL K H l (zs.map V.str)/\JoinOk z zs=true/\Q (.str (Txt.join z zs)) H
theorem B6h:MtR X "str.join" (J3n X.K):=by
 intro pins s σ H x vs v us Q I rx rv h
 obtain⟨z,l,zs,rfl,rfl,hl,ok,q⟩:=h
 obtain⟨t,rfl⟩:=(show∃t,v=Value.str z t from rx)
 obtain⟨u,rfl,ru⟩:=rv.one
 cases ru
 obtain⟨its,r,ht,hz⟩:=I.list hl
 obtain⟨ls,rfl,e⟩:=C4k r
 exact SC.join ht.isList e ok fun t' k=>⟨.str _,H,I.tok _,⟨_,rfl⟩,q⟩
theorem part_of{v:Value}{o:Option Int}(h:IsPart v o):∃p:Option (Int×Tok),v=partValue p/\p.map (·.1)=o:=by
 cases h with
 |none=>exact⟨none,rfl,rfl⟩
 |int i t=>exact⟨some (i,t),rfl,rfl⟩
noncomputable def B1p (x:Str) (lo hi:Option Int):Str:=if((Builtin.Str.strSliceIndices lo hi 1 x.length).length==x.length)=true then x else⟨((Builtin.Str.strSliceIndices lo hi 1 x.length).filterMap (x.cps[·]?)).toArray⟩
noncomputable def J8b:V ->Option Int ->Option Int ->Hp ->VK ->Prop:=fun x lo hi H Q=>∃z,x= .str z/\(B1p z lo hi).length<=sizeLine/\Q (.str (B1p z lo hi)) H
theorem B2x:SlR X J8b:=by
 intro pins s σ H x v vl vu lo hi sl Q I rx hs pl pu h
 obtain⟨z,rfl,hz,q⟩:=h
 obtain⟨t,rfl⟩:=(show∃t,v=Value.str z t from rx)
 obtain⟨l,rfl,rfl⟩:=part_of pl
 obtain⟨u,rfl,rfl⟩:=part_of pu
 refine⟨"str",_,F.slot_str_getitem.lookup,typeIs_str _ _ _,wpAny_getItem_str_slice (l:=l) (u:=u) (st:=none) hs rfl ?_⟩
 exact post_val_or_str ⟨hz,fun t' k=>⟨.str _,H,I.tok _,⟨_,rfl⟩,q⟩⟩
end
structure D4f(K:Frag)(x qual:Str)(st:Stmt)(dV:Value)(f:Addr)(fd:FuncData):Prop where
 ex:∃(oc:Value) (od:Option Addr) (kV doc pm:Value) (an:Option Addr) (cdv ct:Value) (osl:Array (Option Value)),
   fd=fnOf x qual (J9 st) (G8 st) (A4 st) dV kV doc pm an cdv ct/\K.lookup f=some ⟨oc,od,.func fd,osl⟩/\codeIn K cdv qual=true
 kp:keepIn K (.ref f)=true
section
variable{P:Program}{w:World}{K:Frag}{mg:Str ->Option Value}{base:Heap}
theorem D4f.okE{x qual:Str}{st:Stmt}{dV:Value}{f:Addr}{fd:FuncData}{N ps:List Str}{k:Nat}{sp:Sp}(F:D4f K x qual st dV f fd)(S:B0 N ps (A4 st))(len:∀vs H Q E,sp vs H Q E ->vs.length=ps.length)
   (hbody:∀(X:Cx) (cdv:Value) (A:Around) (outer:List Env) (s:Shared) (H:Hp) (vs:List V) (Q:VK) (E:XK),X=A0v (CX1 P w) P w K mg base N qual (A4 st) f cdv A outer s H E ->Y9 k X.A ->G7 X (fun C dd _ H'=>E C dd H') ->sp vs H Q E ->
     ∃t,PSs (A0v (CX1 P w) P w K mg base N qual (A4 st) f cdv A outer s H E) (G8 st) t/\t {nx:=fun _ H'=>Q .non H',rt:=Q} (A2d N vs) H):A9 P w K mg base (CX1 P w) (k+1) f fd ps sp:=by
 obtain⟨oc,od,kV,doc,pm,an,cdv,ct,osl,rfl,lk,hc⟩:=F.ex
 exact C9e lk hc S len fun A outer s H vs Q E hr h=>hbody _ cdv A outer s H vs Q E rfl hr A6b h
theorem C4h{x qual:Str}{st:Stmt}{dV:Value}{f:Addr}{oc:Value}{od an:Option Addr}{osl:Array (Option Value)}{kV doc pm cdv ct:Value}(l:K.lookup f=some ⟨oc,od,.func (fnOf x qual (J9 st) (G8 st) (A4 st) dV kV doc pm an cdv ct),osl⟩)
   (c:codeIn K cdv qual=true) (k:keepIn K (.ref f)=true):D4f K x qual st dV f (fnOf x qual (J9 st) (G8 st) (A4 st) dV kV doc pm an cdv ct):=⟨⟨oc,od,kV,doc,pm,an,cdv,ct,osl,rfl,l,c⟩,k⟩
theorem B5z{fd:FuncData}{ps:List Str}{ds:List Value}{T:Addr}{o:Obj}{items:Array Value}{n:Nat}(hd:fd.defaults= .ref T)(ho:K.lookup T=some o)(hs:o.data= .seq items n)
   (h:∀us:List Value,(us++ds).length=ps.length ->∃k,bindArgs fd ⟨us,[]⟩=seqItems? fd.defaults>>=k/\k (some items)=pure (ps.zip (us++ds))):Binds K fd ps ds:=fun s us X hl=>by
 obtain⟨k,h1,h2⟩:=h us hl
 exact binds_K X hd ho hs h1 h2
end
section
variable{X:Cx}{k j:Nat}{f C:Addr}{fd:FuncData}{ps ks:List Str}{sp:Sp}{EH:EK}{x m:Str}{p pos apos:Pos}{e o:Expr}{es:List Expr}{kws:List Keyword}{ta:TE}{t tk:TA}{g:List Value ->List Value ->List Value}{gV:List V ->List V ->List V}
end
section
variable{X:Cx}{K:Frag}{e:Expr}{f:Str}{pos:Pos}{ta:TE}
theorem B7h(h:X.K=K):IxR X (J3r K):=by subst h;exact A0h
theorem G2a(h:X.K=K)(he:PE X e ta)(hb:attributeBase e f X.env (eval e X.env)=eval e X.env):PE X (.Attribute e f pos) (J3g K ta f):=by subst h;exact D6 he hb
theorem C2k(h:X.K=K):OpR X (compareOp .In) (rIn K false):=by subst h;exact A0t
end
end L2
namespace TR
open PySem L2 PySem.W PyProof.Rows
structure Own(mg:Str ->Option Value):Prop where
 isi:mg "isinstance"=none
 int_:mg "int"=none
 bool_:mg "bool"=none
 str_:mg "str"=none
 list_:mg "list"=none
 tuple_:mg "tuple"=none
 dict_:mg "dict"=none
 len_:mg "len"=none
 range_:mg "range"=none
 min_:mg "min"=none
 max_:mg "max"=none
 abs_:mg "abs"=none
 any_:mg "any"=none
 all_:mg "all"=none
 sum_:mg "sum"=none
 repr_:mg "repr"=none
 enumerate_:mg "enumerate"=none
 reversed_:mg "reversed"=none
 zip_:mg "zip"=none
 sorted_:mg "sorted"=none
 divmod_:mg "divmod"=none
 set_:mg "set"=none
 ValueError_:mg "ValueError"=none
structure Kit(K:Frag):Prop where
 int_int:kitOne K (.type "int") (.type "int")=some true
 int_bool:kitOne K (.type "int") (.type "bool")=some false
 int_str:kitOne K (.type "int") (.type "str")=some false
 int_list:kitOne K (.type "int") (.type "list")=some false
 int_tuple:kitOne K (.type "int") (.type "tuple")=some false
 int_dict:kitOne K (.type "int") (.type "dict")=some false
 bool_int:kitOne K (.type "bool") (.type "int")=some true
 bool_bool:kitOne K (.type "bool") (.type "bool")=some true
 bool_str:kitOne K (.type "bool") (.type "str")=some false
 bool_list:kitOne K (.type "bool") (.type "list")=some false
 bool_tuple:kitOne K (.type "bool") (.type "tuple")=some false
 bool_dict:kitOne K (.type "bool") (.type "dict")=some false
 str_int:kitOne K (.type "str") (.type "int")=some false
 str_bool:kitOne K (.type "str") (.type "bool")=some false
 str_str:kitOne K (.type "str") (.type "str")=some true
 str_list:kitOne K (.type "str") (.type "list")=some false
 str_tuple:kitOne K (.type "str") (.type "tuple")=some false
 str_dict:kitOne K (.type "str") (.type "dict")=some false
 list_int:kitOne K (.type "list") (.type "int")=some false
 list_bool:kitOne K (.type "list") (.type "bool")=some false
 list_str:kitOne K (.type "list") (.type "str")=some false
 list_list:kitOne K (.type "list") (.type "list")=some true
 list_tuple:kitOne K (.type "list") (.type "tuple")=some false
 list_dict:kitOne K (.type "list") (.type "dict")=some false
 tuple_int:kitOne K (.type "tuple") (.type "int")=some false
 tuple_bool:kitOne K (.type "tuple") (.type "bool")=some false
 tuple_str:kitOne K (.type "tuple") (.type "str")=some false
 tuple_list:kitOne K (.type "tuple") (.type "list")=some false
 tuple_tuple:kitOne K (.type "tuple") (.type "tuple")=some true
 tuple_dict:kitOne K (.type "tuple") (.type "dict")=some false
 dict_int:kitOne K (.type "dict") (.type "int")=some false
 dict_bool:kitOne K (.type "dict") (.type "bool")=some false
 dict_str:kitOne K (.type "dict") (.type "str")=some false
 dict_list:kitOne K (.type "dict") (.type "list")=some false
 dict_tuple:kitOne K (.type "dict") (.type "tuple")=some false
 dict_dict:kitOne K (.type "dict") (.type "dict")=some true
 NoneType_int:kitOne K (.type "NoneType") (.type "int")=some false
 NoneType_bool:kitOne K (.type "NoneType") (.type "bool")=some false
 NoneType_str:kitOne K (.type "NoneType") (.type "str")=some false
 NoneType_list:kitOne K (.type "NoneType") (.type "list")=some false
 NoneType_tuple:kitOne K (.type "NoneType") (.type "tuple")=some false
 NoneType_dict:kitOne K (.type "NoneType") (.type "dict")=some false
theorem scK{N P:List Str}{sc:Scope}(a:sc.kind= .function:=by rfl)(b:sc.isCoroutine=false:=by rfl)(c:sc.isGenerator=false:=by rfl)(d:N.Nodup:=by decide+kernel)(e:N.take P.length=P:=by rfl)(f:∀x∈P,sc.names.lookup x=some .local\/sc.names.lookup x=some .cell:=by decide+kernel)(g:∀y∈sc.names,y.2≠ .free:=by decide+kernel):B0 N P sc:=⟨a,b,c,d,e,f,g⟩
theorem C9b{K:Frag}{H:Hp}(i:Int):TyE K H (.int i) (.type "int"):= .of (.int i)
theorem B4r{K:Frag}{H:Hp}(z:Str):TyE K H (.str z) (.type "str"):= .of (.str z)
theorem D2t{K:Frag}{H:Hp}{a:Addr}{xs:List V}(h:H a=some (.lst xs)):TyE K H (.ref a) (.type "list"):= .of (.lst h)
noncomputable def A4r (lo hi:Int) (v:V):Prop:=∃i,v= .int i/\lo<=i/\i<=hi
noncomputable def B0h (K:Frag) (H:Hp) (lo hi:Int) (v:V):Prop:=∃t b1 b2,TyE K H v t/\kitOne K t (.type "int")=some b1/\kitOne K t (.type "bool")=some b2/\((b1&& !b2)=false\/∃i,v= .int i/\(i<lo\/hi<i))
section
variable{K:Frag}{H:Hp}{lo hi:Int}
theorem A5k(T:Kit K){i:Int}(h:i<lo\/hi<i):B0h K H lo hi (.int i):=⟨_,_,_,C9b i,T.int_int,T.int_bool,.inr ⟨i,rfl,h⟩⟩
end
noncomputable def Exc (p:Addr) (H H':Hp):Prop:=∀b o,H b=some o ->b≠p ->H' b=some o
theorem Exc.refl(p:Addr)(H:Hp):Exc p H H:=fun _ _ h _=>h
theorem Exc.trans{p:Addr}{H H1 H2:Hp}(a:Exc p H H1)(b:Exc p H1 H2):Exc p H H2:=fun c o h n=>b c o (a c o h n) n
theorem Exc.upd{p:Addr}{H:Hp}{o:HO}:Exc p H (L2.upd H p o):=fun b u e n=>by rw[C9 n];exact e
theorem Exc.of{p:Addr}{H H':Hp}(s:B5 H H'):Exc p H H':=fun b o h _=>s b o h
noncomputable def Has (P:Program) (w:World) (K:Frag) (mg:Str ->Option Value) (base:Heap) (C:Addr) (m:Str) (k:Nat) (ps:List Str) (sp:Sp):Prop:=∃f fd,B3p K C m f/\A9 P w K mg base (CX1 P w) k f fd ps sp/\Binds K fd ps []
theorem J7c:∀{us:List Value},us.length=1 ->∃a,us=[a]
 | [a],_=>⟨a,rfl⟩
theorem J7g{us:List Value}(h:us.length=2):∃a b,us=[a,b]:=by
 obtain⟨a,t,rfl⟩:=List.exists_cons_of_length_eq_add_one h
 obtain⟨b,t,rfl⟩:=List.exists_cons_of_length_eq_add_one (Nat.succ.inj h)
 exact⟨a,b,by rw[List.eq_nil_of_length_eq_zero (Nat.succ.inj (Nat.succ.inj h))]⟩
theorem G6u{us:List Value}(h:us.length=3):∃a b c,us=[a,b,c]:=by
 obtain⟨a,t,rfl⟩:=List.exists_cons_of_length_eq_add_one h
 obtain⟨b,c,e⟩:=J7g (Nat.succ.inj h)
 exact⟨a,b,c,by rw[e]⟩
theorem J4c{us:List Value}(h:us.length=4):∃a b c d,us=[a,b,c,d]:=by
 obtain⟨a,t,rfl⟩:=List.exists_cons_of_length_eq_add_one h
 obtain⟨b,c,d,e⟩:=G6u (Nat.succ.inj h)
 exact⟨a,b,c,d,by rw[e]⟩
theorem J7a{us:List Value}(h:us.length=5):∃a b c d e,us=[a,b,c,d,e]:=by
 obtain⟨a,t,rfl⟩:=List.exists_cons_of_length_eq_add_one h
 obtain⟨b,c,d,e,z⟩:=J4c (Nat.succ.inj h)
 exact⟨a,b,c,d,e,by rw[z]⟩
theorem D1b{us ds:List Value}{n:Nat}(h:(us++ds).length=n):us.length=n-ds.length:=by rw[List.length_append] at h;omega
end TR
namespace L2
open PySem PySem.Spec PyProof.Rows
section
variable{κ:Type} [DecidableEq κ]
noncomputable def B6f (kvs:List (κ×V)) (k:κ):Option V:=(kvs.find? fun kv=>decide (kv.1=k)).map (·.2)
theorem D2g{p:κ×V}{r:List (κ×V)}{k:κ}(e:p.1=k):B6f (p::r) k=some p.2:=by simp[B6f,List.find?_cons,e]
theorem D2j{p:κ×V}{r:List (κ×V)}{k:κ}(e:¬p.1=k):B6f (p::r) k=B6f r k:=by simp[B6f,List.find?_cons,e]
theorem A4c.isSome_eq{o:Option V}{u:Option Value}(r:A4c o u):o.isSome=u.isSome:=by
 cases o with
 | none=>cases u with
   |none=>rfl
   |some _=>exact(show False from r).elim
 | some _=>cases u with
   |none=>exact(show False from r).elim
   |some _=>rfl
theorem KV.val{kvs:List (κ×V)}{vs:List (κ×Value)}(r:KV kvs vs)(k:κ):A4c (B6f kvs k) (valueAt vs k):=by
 unfold KV at r
 induction r with
 |nil=>exact True.intro
 | @cons p q ps qs h t ih=>
   obtain⟨h1,h2⟩:=h
   by_cases e:p.1=k
   . have e':q.1=k:=h1.symm.trans e
     have b:valueAt (q::qs) k=some q.2:=by simp[valueAt,List.find?_cons,e']
     rw[D2g e,b];exact h2
   . have e':¬q.1=k:=fun z=>e (h1.trans z)
     have b:valueAt (q::qs) k=valueAt qs k:=by simp[valueAt,List.find?_cons,e']
     rw[D2j e,b];exact ih
end
section
variable{P:Program}{w:World}{H:Hp}{h:Heap}{a:Addr}
end
section
variable{X:Cx}{pins:List (Addr×Obj)}{σ:St}{H:Hp}{s:Shared}{a:Addr}{y v:V}{u r:Value}{o:Option V}{A:Around}{E:Value ->Shared ->Prop}
end
section
variable{X:Cx}{pins:List (Addr×Obj)}{σ:St}{H:Hp}{s:Shared}{a:Addr}{kvs:List (Key×V)}{k:Key}{u:Value}{A:Around}{E:Value ->Shared ->Prop}
end
section
variable{X:Cx}{o i e value:Expr}{pos pos' tpos:Pos}{td ty tv:TE}
end
section
variable{X:Cx}{pos:Pos}
end
end L2
namespace L2
open PySem PySem.Spec PyProof.Rows PySem.W
noncomputable def A1n (F:List Str) (env:Env):List (Str×Addr):=F.map fun x=>(x,(env.cells.lookup x).getD 0)
noncomputable def A3f (js:List Nat) (σ:St):St:=js.map fun j=>(σ[j]?).getD none
noncomputable abbrev Cx.compF (X:Cx) (scope:Scope) (N F:List Str) (C:Addr) (s₀:Shared) (H₀:Hp) (ex:List Addr) (pins:List (Addr×Obj)):Cx:=
 {X with N:=N++F,s₀:=s₀,H₀:=H₀,env:=compEnvC scope (A1n F X.env) C X.env,outer:=X.stack,ex:=ex,fn:=fun _=>false,pn:=pins,xe:=fun _ _=>False}
structure G0(N F:List Str)(js:List Nat)(sc:Scope)(XN:List Str)(env:Env):Prop where
 kind:sc.kind= .function
 cell:∀y∈sc.names,y.2≠ .cell
 loc:∀y∈sc.names,y.2= .local ->sc.names.lookup y.1=some .local
 nd:(N++F).Nodup
 clos:closureFor sc env=pure (A1n F env)
 fr:∀y∈(relabel sc env).names,y.2= .cell\/y.2= .free ->y.1∈F
 at_:∀(k:Nat) (x:Str),F[k]?=some x ->(∃j:Nat,js[k]?=some j/\XN[j]?=some x)/\(∃c,env.cells.lookup x=some c)/\env.kindOf x=some .cell/\(relabel sc env).names.lookup x=some .cell
 jl:js.length=F.length
noncomputable def C0q (n:Nat) (js:List Nat) (wi:TI) (g:TG) (tc:TT) (te:TE):TE:=fun σ H Q=>wi σ H fun J H1=>∀D,H1 D=none ->
 ∃ (m:Nat) (W:Nat ->List V ->Hp ->Prop),W 0 [] (upd H1 D (.lst []))/\∀i ys H2,W i ys H2 ->i<=m/\H2 D=some (.lst ys)/\((J.stop i H2/\Q (.ref D) H2)\/(i<m/\J.go i H2/\∀x H3,J.yld i H2 x H3 ->
   g x (List.replicate n none++A3f js σ) H3 fun σ4 H4=>tc σ4 H4 fun b H5=>if b=true then te σ4 H5 fun y H6=>H6 D=some (.lst ys)/\ys.length<sizeLine/\W (i+1) (ys++ [y]) (upd H6 D (.lst (ys++ [y]))) else W (i+1) ys H5))
noncomputable def C5b (n:Nat) (js:List Nat) (wi:TI) (g:TG) (te:TE):TE:=fun σ H Q=>wi σ H fun J H1=>∀D,H1 D=none ->
 ∃ (m:Nat) (W:Nat ->List V ->Hp ->Prop),W 0 [] (upd H1 D (.lst []))/\∀i ys H2,W i ys H2 ->i<=m/\H2 D=some (.lst ys)/\((J.stop i H2/\Q (.ref D) H2)\/(i<m/\J.go i H2/\∀x H3,J.yld i H2 x H3 ->
   g x (List.replicate n none++A3f js σ) H3 fun σ4 H4=>te σ4 H4 fun y H6=>H6 D=some (.lst ys)/\ys.length<sizeLine/\W (i+1) (ys++ [y]) (upd H6 D (.lst (ys++ [y])))))
theorem G4u{F:List Str}{env:Env}{x:Str}{c:Addr}(h:(A1n F env).lookup x=some c):x∈F/\c=(env.cells.lookup x).getD 0:=by
 have:=PySem.mem_of_lookup h
 obtain⟨y,hy,e⟩:=List.mem_map.mp this
 cases e
 exact⟨hy,rfl⟩
theorem C9a{env:Env}{x:Str}:∀{F:List Str},x∈F ->(A1n F env).lookup x=some ((env.cells.lookup x).getD 0)
 | y ::F,h=>by
   show List.lookup x ((y,(env.cells.lookup y).getD 0)::A1n F env)=_
   by_cases e:x=y
   . subst e;simp[List.lookup]
   . have hb:(x==y)=false:=beq_eq_false_iff_ne.mpr e
     rw[List.lookup_cons,hb]
     exact C9a (by rcases List.mem_cons.mp h with z|z;exact absurd z e;exact z)
section
variable{X:Cx}{N F:List Str}{js:List Nat}{scope:Scope}
theorem G0.sub(S:G0 N F js scope X.N X.env):∀x c,(A1n F X.env).lookup x=some c ->X.env.cells.lookup x=some c:=fun x c z=>by
 obtain⟨hx,rfl⟩:=G4u z
 obtain⟨k,hk⟩:=List.mem_iff_getElem?.mp hx
 obtain⟨_,⟨c,hc⟩,_⟩:=S.at_ k x hk
 rw[hc];rfl
theorem G0.has(S:G0 N F js scope X.N X.env){x:Str}(hx:x∈F):∃c,(A1n F X.env).lookup x=some c/\X.env.cells.lookup x=some c:=
 ⟨_,C9a hx,S.sub _ _ (C9a hx)⟩
theorem B5b{pins:List (Addr×Obj)}{σ:St}{H:Hp}{s:Shared}(S:G0 N F js scope X.N X.env)(I:Inv X pins σ H s){h':Heap}{m:Str ->Option Value}{C:Addr}(hc:∀x c v,X.env.cells.lookup x=some c ->s.heap.IsCell c v ->h'.IsCell c v):
   ∀(i:Nat) (x:Str) (v:V),(N++F)[i]?=some x ->(List.replicate N.length none++A3f js σ)[i]?=some (some v) ->∃u,U4 v u/\J4d (compEnvC scope (A1n F X.env) C X.env) h' m x u:=by
 intro i x v e1 e2
 by_cases hi:i<N.length
 . rw[List.getElem?_append_left (by simpa using hi),List.getElem?_replicate] at e2
   split at e2<;>cases e2
 rw[List.getElem?_append_right (by omega)] at e1
 rw[List.getElem?_append_right (by simp;omega)] at e2
 rw[List.length_replicate] at e2
 obtain⟨⟨j,hj,hx⟩,⟨c,hcc⟩,kx,kr⟩:=S.at_ _ x e1
 unfold A3f at e2
 rw[List.getElem?_map,hj] at e2
 have e2:(σ[j]?).getD none=some v:=Option.some.inj e2
 have e3:σ[j]?=some (some v):=by
   cases q:σ[j]? with
   |none=>rw[q] at e2;cases e2
   |some o=>rw[q] at e2;exact congrArg some e2
 obtain⟨m0,_,hl⟩:=I.loc
 obtain⟨u,r,l⟩:=hl j x v hx e3 (.inr (.inl kx))
 refine⟨u,r,.inr ⟨.inl kr,c,?_,?_⟩⟩
 . obtain⟨c',h1,h2⟩:=S.has (List.mem_of_getElem? e1)
   rw[hcc] at h2
   cases h2
   exact h1
 rcases l with⟨k,_⟩|⟨_,c',h1,h2⟩
 . rw[kx] at k;cases k
 rw[hcc] at h1
 cases h1
 exact hc x c _ hcc h2
theorem D1y(S:G0 N F js scope X.N X.env)(σ:St):(List.replicate N.length none++A3f js σ:St).length=(N++F).length:=by
 unfold A3f
 rw[List.length_append,List.length_replicate,List.length_map,S.jl,List.length_append]
end
structure G4b(N F:List Str)(sc:Scope):Prop where
 kind:sc.kind= .function
 cell:∀y∈sc.names,y.2≠ .cell
 loc:∀y∈sc.names,y.2= .local ->sc.names.lookup y.1=some .local
 fr:∀y∈sc.names,y.2= .free ->y.1∈F
 nd:(N++F).Nodup
theorem B1n{sc:Scope}{env:Env}{F:List Str}(cell:∀y∈sc.names,y.2≠ .cell)(fr:∀y∈sc.names,y.2= .free ->y.1∈F):∀y∈(relabel sc env).names,y.2= .cell\/y.2= .free ->y.1∈F:=by
 intro y hy h
 obtain⟨⟨n,k⟩,hm,e⟩:=List.mem_map.mp hy
 dsimp only at e
 split at e
 . rename_i hc
   subst e
   simp only[Bool.and_eq_true] at hc
   exact fr (n,k) hm (by simpa using hc.1.1)
 subst e
 rcases h with h|h
 . exact absurd h (cell (n,k) hm)
 exact fr (n,k) hm h
theorem G0.of1{N:List Str}{x:Str}{j:Nat}{sc:Scope}{XN:List Str}{env:Env}(S:G4b N [x] sc)(clos:closureFor sc env=pure (A1n [x] env))(hj:XN[j]?=some x)(hc:∃c,env.cells.lookup x=some c)(hk:env.kindOf x=some .cell)
   (hr:(relabel sc env).names.lookup x=some .cell):G0 N [x] [j] sc XN env:=
 ⟨S.kind,S.cell,S.loc,S.nd,clos,B1n S.cell S.fr,fun k y h=>match k,h with
   |0,h=>by cases h;exact⟨⟨j,rfl,hj⟩,hc,hk,hr⟩
   |k+1,h=>by simp at h,rfl⟩
theorem A1f(z:Str):∀zs:List Str,inV (.str z) (zs.map V.str)=zs.contains z
 | []=>rfl
 | y::zs=>by
   show(eqV (.str y) (.str z)||inV (.str z) (zs.map V.str))=_
   rw[A1f z zs,List.contains_cons]
   show((y==z)||_)=_
   rw[BEq.comm]
theorem A1b:∀zs:List Str,(zs.map V.str).all A7s=true
 | []=>rfl
 |_::zs=>A1b zs
theorem C8q{K:Frag}{H:Hp}{σ σf:L2.St}{a:Addr}{zs:List Str}{f:Str ->Bool}{tc:TT}{te:TE}{Q:VK}(hl:∀H,SqT K H a (zs.map V.str))(hz:zs.length<=100)
   (ht:∀(z:Str) (H':Hp) (Qb:Bool ->Hp ->Prop),B5 H H' ->Qb (f z) H' ->tc (some (.str z)::σf) H' Qb) (he:∀(z:Str) (H':Hp) (Qv:VK),Qv (.str z) H' ->te (some (.str z)::σf) H' Qv)
   (k:∀D H',B5 H H' ->H D=none ->H' D=some (.lst ((zs.filter f).map V.str)) ->Q (.ref D) H') {js:List Nat} (hj:A3f js σ=σf):C0q 1 js (J3f K (tC (.ref a))) (B1q 0) tc te σ H Q:=by
 refine⟨a,rfl,⟨_,hl H⟩,fun D hD=>⟨zs.length,fun i ys H2=>i<=zs.length/\ys=((zs.take i).filter f).map V.str/\H2=upd H D (.lst ys),⟨Nat.zero_le _,rfl,rfl⟩,?_⟩⟩
 rintro i ys H2 ⟨hi,rfl,rfl⟩
 refine⟨hi,A6,?_⟩
 have sm:B5 H (upd H D (.lst (((zs.take i).filter f).map V.str))):=B5.upd hD
 have lz:(((zs.take i).filter f).map V.str).length<=100:=by
   rw[List.length_map]
   exact Nat.le_trans (List.length_filter_le _ _) (by rw[List.length_take];omega)
 by_cases hlt:i<zs.length
 . refine .inr ⟨hlt,⟨_,V.str zs[i],hl _,by simp[hlt]⟩,fun x H3 y=>?_⟩
   obtain⟨rfl,y⟩:=y
   have ex:x=V.str zs[i]:=by
     have:=y _ (hl _)
     simp[hlt] at this
     exact this.symm
   subst ex
   rw[hj]
   show tc (some (.str zs[i])::σf) _ _
   refine ht _ _ _ sm ?_
   have et:(zs.take (i+1)).filter f=(zs.take i).filter f++(if f zs[i] then [zs[i]] else []):=by
     rw[List.take_succ_eq_append_getElem hlt,List.filter_append]
     congr 1
     cases hb:f zs[i]<;>simp[hb]
   cases hb:f zs[i] with
   | false=>
     refine V1 ⟨hlt,?_,rfl⟩
     rw[et,hb];simp
   | true=>
     refine Y1 (he _ _ _ ⟨A6,Nat.lt_of_le_of_lt lz (Y6 (by decide)),hlt,?_,?_⟩)
     . rw[et,hb];simp
     . rw[G1x]
 have e:i=zs.length:=by omega
 subst e
 refine .inl ⟨⟨_,hl _,by simp⟩,k D _ sm hD ?_⟩
 rw[List.take_length]
 exact A6
end L2
namespace L2
open PySem
section
variable{prog:Program}{w:World}{A:Around}{E:Value ->Shared ->Prop}{h:Heap}{g:Array GenState}{d:Drawn}{t:Nat}{os:OsState}
variable{nm q:Str}{C N:Addr}{bs bm bmB:List Value}{hdct:Bool}{sn:List Str}{sub:List Value}{ab:Bool}{col:Option Bool}{dd:Option Addr}{k0 k1 k2 k3 k5:Option Value}{B newId initId:String}
theorem A5t(F:ExcBaseFacts B newId initId bmB)(T:OwnTail h bmB bm){mN:Str ->Option Value}{rest:List Value}{fI:Addr}{oI:Obj}{Q:Fin ->Shared ->Prop}
   (hC:h.get? C=some (excClassObj nm q C N bs bm hdct sn sub ab col dd k0 k1 k2 k3 k5 newId)) (hn:h.Ns N mN) (hi:mN "__init__"=some (.ref fI))
   (hfI:h.get? fI=some oI) (hfc:oI.cls= .type "function")
   (hq:∀h' e,Heap.MadeExcOf h h' e (.ref C) rest ->
     wpAny (model prog w) A (call (.ref fI) (.ref e::rest)) (fun r s'=>r= .none/\Q (.done (.ret (.ref e))) s') E ⟨h',g,d,t,os⟩) (hrest:rest.length<=sizeLine):
   wpAny (model prog w) A (Builtin.«type.__call__» ⟨.ref C :: rest, []⟩) Q E ⟨h, g, d, t, os⟩ := by
 repeat (first|with_reducible refine wpAny_loadPart_at hC ?_|with_reducible refine wpAny_madeBy_exc hC ?_|wp_step)
 refine codeAny_call_builtin_code (Code.quiet_builtin _ F.quiet) (wpAny_check_new_subT F T hC ?_)
 refine codeAny_exc_new_subT F T hC ?_ hrest
 show wpAny _ _ _ _ _ _
 have hC₁:=Heap.get?_push_of_some {cls:= .ref C,data:= .fields #[.ref h.objs.size,.none,.none,.none,.bool false,.none]}
   (Heap.get?_push_of_some {cls:= .type "tuple",data:= .seq rest.toArray} hC)
 have hfI₁:=Heap.get?_push_of_some {cls:= .ref C,data:= .fields #[.ref h.objs.size,.none,.none,.none,.bool false,.none]}
   (Heap.get?_push_of_some {cls:= .type "tuple",data:= .seq rest.toArray} hfI)
 have hn₁:((h.push {cls:= .type "tuple",data:= .seq rest.toArray}).push {cls:= .ref C,data:= .fields #[.ref h.objs.size,.none,.none,.none,.bool false,.none]}).Ns N mN:=
   let⟨o,es,ep,e,r⟩:=hn;⟨o,es,ep,Heap.get?_push_of_some _ (Heap.get?_push_of_some _ e),r⟩
 have hget:((h.push {cls:= .type "tuple",data:= .seq rest.toArray}).push
     {cls:= .ref C,data:= .fields #[.ref h.objs.size,.none,.none,.none,.bool false,.none]}).get? (h.objs.size+1)=some
     {cls:= .ref C,data:= .fields #[.ref h.objs.size,.none,.none,.none,.bool false,.none]}:=by heap_get
 have hcC:(Value.ref C::bm).contains (.ref C)=true:=by simp
 have T₁:=T.keeps (h':=(h.push {cls:= .type "tuple",data:= .seq rest.toArray}).push {cls:= .ref C,data:= .fields #[.ref h.objs.size,.none,.none,.none,.bool false,.none]})
   fun b o e=>Heap.get?_push_of_some _ (Heap.get?_push_of_some _ e)
 unfold isInstance
 repeat (first|with_reducible refine wpAny_loadPart_at hget ?_|(with_reducible refine wpAny_isSubtype_exc hC₁ ?_;rw[hcC])|wp_step)
 show wpAny _ _ (typeLookup (.ref C) _) _ _ _
 refine wpAny_typeLookup_tail hC₁ hn₁ T₁ F.mroIs F.init.lookup ?_
 rw[hi]
 refine wpAny_holding (wpAny_bind ?_)
 unfold bindSpecial
 refine wpAny_bind (wpAny_typeOf (T:="function") ⟨_,hfI₁,hfc⟩ ?_)
 rw[if_pos (by decide)]
 refine wpAny_pure (wpAny_bind (wpAny_mono (hq _ (h.objs.size+1) ⟨fun b o hb=>Heap.get?_push_of_some _ (Heap.get?_push_of_some _ hb),Heap.get?_none_of_le (Nat.le_succ _),h.objs.size,hget,Heap.get?_none_of_le (Nat.le_refl _),?_⟩) (fun r s' hr=>?_) fun _ _ x=>x))
 . exact Heap.get?_push_of_some _ (Heap.get?_push_at rfl rfl)
 obtain⟨rfl,hQ⟩:=hr
 wp_walk
 exact hQ
theorem B2e(F:ExcBaseFacts B newId initId bmB)(T:OwnTail h bmB bm){mN:Str ->Option Value}{rest:List Value}{fI:Addr}{oI:Obj}{Q:Value ->Shared ->Prop}
   (hC:h.get? C=some (excClassObj nm q C N bs bm hdct sn sub ab col dd k0 k1 k2 k3 k5 newId)) (hn:h.Ns N mN) (hi:mN "__init__"=some (.ref fI))
   (hfI:h.get? fI=some oI) (hfc:oI.cls= .type "function")
   (hq:∀h' e,Heap.MadeExcOf h h' e (.ref C) rest ->
     wpAny (model prog w) (A.under (.builtin "type.__call__" ⟨.ref C::rest,[]⟩)) (call (.ref fI) (.ref e::rest)) (fun r s'=>r= .none/\Q (.ref e) s') E ⟨h',g,d,t,os⟩) (hrest:rest.length<=sizeLine):
   wpAny (model prog w) A (call (.ref C) rest) Q E ⟨h,g,d,t,os⟩:=by
 have f1:=tc_lookup
 have f2:=tc_bind (.ref C)
 have hT:(⟨h,g,d,t,os⟩:Shared).TypeIs (.ref C) "type":=⟨_,hC,rfl⟩
 refine wpAny_call (codeAny_of_tree ?_)
 show wpAny _ _ (callAny (.ref C) _) _ _ _
 repeat (any_goals (first|assumption|with_reducible refine wpAny_loadPart_at hC ?_|wp_step))
 refine⟨rfl,?_⟩
 refine codeAny_call_builtin_at (Code.quiet_builtin _ (by decide+kernel)) entry_typeCall (wpAny_check_type_call_sub hC (A5t (hrest:=hrest) F T hC hn hi hfI hfc fun h' e hm=>?_))
 exact hq h' e hm
end
section
variable{M:Model}{prog:Program}{w:World}{A:Around}{E:Value ->Shared ->Prop}{s:Shared}{env:Env}
variable{nm q:Str}{C N:Addr}{bs bm bmB:List Value}{hdct:Bool}{sn:List Str}{sub:List Value}{ab:Bool}{col:Option Bool}{dd:Option Addr}{k0 k1 k2 k3 k5:Option Value}{B newId initId:String}
theorem A4t{x:Sem Value}{Q:Flow ->Shared ->Prop}(hbase:bm.contains (.type "BaseException")=true)(hh:A.handled=none)
   (h:wpAny M A x (fun v s₁=>∃e t de,v= .ref e/\s₁.heap.get? C=some (excClassObj nm q C N bs bm hdct sn sub ab col dd k0 k1 k2 k3 k5 newId)/\
     s₁.heap.get? e=some {cls:= .ref C,dict:=de,data:= .fields #[.ref t,.none,.none,.none,.bool false,.none]}/\E (.ref e) s₁) E s):
   wpAny M A (raiseStmt env (some x) none) Q E s:=by
 have hcB:(Value.ref C::bm).contains (.type "BaseException")=true:=by rw[List.contains_cons,hbase,Bool.or_true]
 unfold raiseStmt
 refine wpAny_bind (wpAny_mono h (fun v s₁ h₁=>?_) fun _ _ x=>x)
 obtain⟨e,t,de,rfl,hC,he,hE⟩:=h₁
 obtain⟨hp,g,d,tk,os⟩:=s₁
 repeat (first|with_reducible refine wpAny_loadPart_at he ?_|with_reducible refine wpAny_loadPart_at hC ?_|(with_reducible refine wpAny_isSubtype_exc hC ?_;rw[hcB])|wp_step)
 exact wpAny_raiseNew_none hh hE
theorem A9c(F:ExcBaseFacts B newId initId bmB){mN:Str ->Option Value}{x:Str}{np cpos pos:Pos}{args:List Expr}{Q:Flow ->Shared ->Prop}{fI:Addr}{oI:Obj}
   (hbase:bm.contains (.type "BaseException")=true) (hh:A.handled=none) (hplain:(backTo cpos (starEach args env)).any (·.1)=false) (hi:mN "__init__"=some (.ref fI)) (hfc:oI.cls= .type "function")
   (h:wpAny (model prog w) A (eval (.Name x np) env) (fun f s₁=>f= .ref C/\wpAny (model prog w) A (evalArgs (.ref C) true (backTo cpos (starEach args env)) [])
     (fun a s₂=>a.kw=[]/\a.pos.length<=sizeLine/\s₂.heap.get? C=some (excClassObj nm q C N bs bm hdct sn sub ab col dd k0 k1 k2 k3 k5 newId)/\s₂.heap.Ns N mN/\OwnTail s₂.heap bmB bm/\s₂.heap.get? fI=some oI/\
       ∀ h' e,Heap.MadeExcOf s₂.heap h' e (.ref C) a.pos ->wpAny (model prog w) (A.under (.builtin "type.__call__" ⟨.ref C::a.pos,[]⟩)) (call (.ref fI) (.ref e::a.pos))
         (fun r s₃=>r= .none/\s₃.heap.get? C=some (excClassObj nm q C N bs bm hdct sn sub ab col dd k0 k1 k2 k3 k5 newId)/\(∃t de,s₃.heap.get? e=some {cls:= .ref C,dict:=de,data:= .fields #[.ref t,.none,.none,.none,.bool false,.none]})/\E (.ref e) s₃) E {s₂ with heap:=h'}) E s₁) E s):
   wpAny (model prog w) A (exec (.Raise (some (.Call (.Name x np) args [] cpos)) none pos) env) Q E s:=by
 rw[arm_exec_Raise]
 first
   |refine wpAny_bind (wpAny_standAt (A4t (C:=C) (nm:=nm) (q:=q) (N:=N) (bs:=bs) (bm:=bm) (hdct:=hdct) (sn:=sn) (sub:=sub) (ab:=ab) (col:=col) (dd:=dd) (k0:=k0) (k1:=k1) (k2:=k2) (k3:=k3) (k5:=k5) (newId:=newId) hbase hh (wpAny_bind (wpAny_mono (wpAny_Call_ofName (wpAny_mono h (fun f s₁ h₁=>?_) fun _ _ x=>x)) (fun v s₃ h₃=>wpAny_bind (wpAny_standAt (wpAny_pure h₃))) fun _ _ x=>x))))
   |(simp only[evalOpt,Option.map];refine wpAny_bind (wpAny_standAt (A4t (C:=C) (nm:=nm) (q:=q) (N:=N) (bs:=bs) (bm:=bm) (hdct:=hdct) (sn:=sn) (sub:=sub) (ab:=ab) (col:=col) (dd:=dd) (k0:=k0) (k1:=k1) (k2:=k2) (k3:=k3) (k5:=k5) (newId:=newId) hbase hh (wpAny_bind (wpAny_mono (wpAny_Call_ofName (wpAny_mono h (fun f s₁ h₁=>?_) fun _ _ x=>x)) (fun v s₃ h₃=>wpAny_bind (wpAny_standAt (wpAny_pure h₃))) fun _ _ x=>x)))))
 obtain⟨rfl,h₁⟩:=h₁
 unfold callWith
 refine wpAny_bind (wpAny_holding (wpAny_mono h₁ (fun a s₂ h₂=>wpAny_bind (wpAny_standAt ?_)) fun _ _ x=>x))
 obtain⟨apos,akw⟩:=a
 obtain⟨hkw,hlen,hC,hn,T,hf,h₂⟩:=h₂
 obtain rfl:akw=[]:=hkw
 obtain⟨hp,g,d,tk,os⟩:=s₂
 simp only[hplain]
 refine wpAny_bind (wpAny_keeperOf_exc hC ?_)
 refine wpAny_bind (B2e F T hC hn hi hf hfc (fun h' e hm=>wpAny_mono (h₂ h' e hm) (fun r s₃ z=>⟨z.1,wpAny_bind (wpAny_holding (wpAny_point (wpAny_pure ?_)))⟩) fun _ _ x=>x) hlen)
 obtain⟨_,hC3,⟨t,de,he⟩,hE⟩:=z
 exact⟨e,t,de,rfl,hC3,he,hE⟩
end
end L2
namespace L2
open PySem PySem.Spec PyProof.Rows PySem.W
noncomputable abbrev C4p:List Value:=[.type "ValueError",.type "Exception",.type "BaseException",.type "object"]
structure C8m(K:Frag)(C fI:Addr):Prop where
 cls:∃nm q N bs bm sn sub ab col dd k0 k1 k2 k3 k5,K.lookup C=some (excClassObj nm q C N bs bm true sn sub ab col dd k0 k1 k2 k3 k5 "ValueError.__new__")/\nsOkIn K N=true/\nsIn K N "__init__"=some (some (.ref fI))/\tailIn K C4p bm=true
 fn:∃o,K.lookup fI=some o/\o.cls= .type "function"
 sa:findIn K (.ref C) "__setattr__"=some (some (.builtin "object.__setattr__"))
 ob:mroIn K C (.type "object")=some true
theorem C1g{K:Frag}{h:Heap}{N:Addr}{mg:Str ->Option Value}{n:Str}{v:Value}(X:K.In h)(G:h.Ns N mg)(e:nsIn K N n=some (some v)):mg n=some v:=by
 obtain⟨o,es,ep,ho,hd,_,hf⟩:=G
 unfold nsIn at e
 split at e
 . rename_i c d es' n' sl q
   have:=X _ _ q
   rw[ho] at this
   cases this
   cases hd
   split at e
   . rename_i en he
     cases e
     rw[<-hf]
     unfold nsFind findBy
     rw[<-Array.find?_toList,he]
     rfl
   . split at e<;>cases e
 cases e
theorem B0b{h:Heap}(self:Value):∀{l:List Value},OwnTail h C4p l ->refuseLoop self "__setattr__" l=pure ()
 |_,.base=>PySem.F.store_ValueError.passes self
 |_,.own _ _ _ t=>by rw[refuseLoop_ref];exact B0b self t
section
variable{prog:Program}{w:World}{A:Around}{s:Shared}{K:Frag}{C e fI:Addr}{t:Addr}{R:Result ->Shared ->Prop}{name:Str}{tk:Tok}{v:Value}
theorem G1r(X:K.In s.heap)(F:C8m K C fI)(he:s.heap.get? e=some (A0d (.ref C) t none .none))(ht:findIn K (.ref C) name=some none)
   (h:∀h' tk' d,(∀b ob,b≠e ->s.heap.get? b=some ob ->h'.get? b=some ob) ->h'.get? e=some (A0d (.ref C) t (some d) .none) ->h'.Ns1 d (fun y=>if y=name then some v else none) ->s.heap.get? d=none ->d≠e ->
     R (.ok (.ret .none)) {s with heap:=h',toks:=tk'}):
   codeAny (model prog w) A (.call (.builtin "object.__setattr__") ⟨[.ref e,.str name tk,v],[]⟩) R s:=by
 have SF:=PySem.F.store_object
 obtain⟨nm,q,N,bs,bm,sn,sub,ab,col,dd,k0,k1,k2,k3,k5,lC,nO,nI,tl⟩:=F.cls
 have hC:=X _ _ lC
 have I:PySem.W.InstAt s.heap e (A0d (.ref C) t none .none) C none:=⟨he,rfl,rfl,trivial⟩
 have hc:clsIn K C=some {name:=nm,bases:=bs,mro:= .ref C::bm,ns:=N,qualname:=q,hasDict:=true,slotNames:=sn,subclasses:=sub,abstract:=ab,collection:=col,hasDel:=false}:=by
   unfold clsIn
   rw[lC]
 have sub':Looks (model prog w) s.heap (isInstance (.ref e) (.type "object")) true:=I.type.andThen (looks_mroIn X F.ob)
 refine codeAny_call_builtin SF.slot.plain SF.entry (@check_slot (model prog w) _ _ s "object.__setattr__" "object" "__setattr__" (.ref e) [.str name tk,v] [] _ SF.kind SF.split sub' (SF.args (.ref e) (.str name tk) v) ?_)
 have hm:Looks (model prog w) s.heap (mroOf (.ref C)) (.ref C::bm):=(looks_clsIn X hc).andThen .now
 have L3:Looks (model prog w) s.heap (Builtin.ObjectAttr.storeTaker? none) none:= .now
 rw[osa_eq,refuse_eq]
 refine wpAny_bind (wpAny_bind (I.type.here (wpAny_bind (hm.here ?_))))
 rw[refuseLoop_ref,B0b _ (tail_of_in X tl)]
 refine wpAny_pure (wpAny_bind (I.type.here (wpAny_bind ((looks_findIn X ht).here (wpAny_bind (L3.here ?_))))))
 dsimp only
 refine wpAny_bind (wpAny_pure (wpAny_bind (wpAny_bind (wpAny_loadPart he (wpAny_bind (PySem.W.Looks.here (PySem.W.looks_clsIn X hc) ?_))))))
 have hx₁:(s.heap.push {cls:= .type "dict",data:= .dict #[]}).get? e=some (A0d (.ref C) t none .none):=Heap.get?_push_of_some _ he
 have hxs:e≠s.heap.objs.size:=Nat.ne_of_lt (Heap.lt_size he)
 show wpAny (model prog w) A.in1 (do
     let d<-alloc {cls:=Value.type "dict",data:=Data.dict #[]}
     update e fun o=>{cls:=o.cls,dict:=some d,data:=o.data,slots:=o.slots}
     pure (some d)) _ _ _
 refine wpAny_bind (wpAny_alloc' ?_)
 refine wpAny_bind (wpAny_update' hx₁ ?_)
 refine wpAny_pure ?_
 have hgd:((s.heap.push {cls:= .type "dict",data:= .dict #[]}).update e fun o=>{cls:=o.cls,dict:=some s.heap.objs.size,data:=o.data,slots:=o.slots}).get? s.heap.objs.size
     =some {cls:= .type "dict",data:= .dict #[]}:=
   (Heap.get?_update_ne _ _ _ _ hxs.symm).trans (Heap.get?_push_at rfl rfl)
 have hnd:((s.heap.push {cls:= .type "dict",data:= .dict #[]}).update e fun o=>{cls:=o.cls,dict:=some s.heap.objs.size,data:=o.data,slots:=o.slots}).Ns s.heap.objs.size (fun _=>none):=
   ⟨_, #[],_,hgd,rfl,fun e he=>absurd he (by simp),fun _=>rfl⟩
 show wpAny _ _ (Builtin.ObjectAttr.storeInDict s.heap.objs.size (.str name tk) name v) _ _ _
 unfold Builtin.ObjectAttr.storeInDict Builtin.ObjectAttr.newKeyGuard
 refine wpAny_bind (wpAny_pure (wpAny_bind (wpAny_nsSet1 (Heap.Ns1.of_empty hnd) fun h' hn' hs=>?_)))
 obtain⟨oD,esD,epD,hoD,hdD,hcD⟩:=hn'.count (Within.cons name v Within.nil)
 refine wpAny_bind (wpAny_lookBehind hoD (by rw[hdD];exact pastItsLine_dict (Nat.le_trans hcD (by rw[List.length_cons,List.length_nil,sizeLine_eq];omega))) ?_)
 have hx':h'.get? e=some (A0d (.ref C) t (some s.heap.objs.size) .none):=(hs.2 e hxs).trans (Heap.get?_update_self _ hx₁ rfl)
 refine wpAny_pure (h h' _ s.heap.objs.size (fun b ob hbx hb=>?_) hx' hn' (Heap.get?_none_of_le (Nat.le_refl _)) hxs.symm)
 exact(hs.2 b (Nat.ne_of_lt (Heap.lt_size hb))).trans ((Heap.get?_update_ne _ _ _ _ hbx).trans (Heap.get?_push_of_some _ hb))
end
noncomputable def A2e (e C t:Addr) (d:Option Addr):Heap ->Prop:=fun h=>h.get? e=some (A0d (.ref C) t d .none)
theorem C9p{P:Program}{w:World}{H:Hp}{h:Heap}{e C t:Addr}{d:Option Addr}(q:h.get? e=some (A0d (.ref C) t d .none)):Z9 P w H h e (.ext (A2e e C t d)):=
 ⟨q,⟨_,q⟩,fun _ _ z k=>k _ z⟩
section
variable{X:Cx}{pins:List (Addr×Obj)}{σ:St}{H:Hp}{s:Shared}
theorem Inv.trackO{a:Addr}{ho:HO}(I:Inv X pins σ H s)(n:Nw X pins H a)(ok:Z9 X.prog X.w (upd H a ho) s.heap a ho):Inv X pins σ (upd H a ho) s:=by
 have ne:∀b u,H b=some u ->b≠a:=fun b u z q=>by rw[q,n.un] at z;cases z
 have up:∀b,b≠a ->upd H a ho b=H b:=fun b hb=>C9 hb
 refine⟨I.ok,I.os,I.bare,⟨I.base.keep,I.base.slot,fun b u z m hx=>?_,I.base.there,fun b xs z=>?_,fun b u v z=>?_,fun b ps z=>?_⟩,I.loc,I.cell,?_,fun x c z=>?_,fun p hp=>?_,fun b u z=>?_,I.len⟩
 . rw[up b fun q=>by rw[q,n.old] at z;cases z]
   exact I.base.free b u z m hx
 . have:=I.base.tups b xs z
   rw[up b (ne b _ this)];exact this
 . have:=I.base.frzs b u v z
   rw[up b (ne b _ this)];exact this
 . obtain⟨more,this⟩:=I.base.tbls b ps z
   exact⟨more,by rw[up b (ne b _ this)];exact this⟩
 . rw[up _ (Ne.symm n.loc)];exact I.free
 . rw[up _ (n.cell x c z)];exact I.freeC x c z
 . obtain⟨q1,q2,q3⟩:=I.pin p hp
   exact⟨q1,by rw[up _ (n.pin p hp)];exact q2,q3⟩
 by_cases hb:b=a
 . subst hb
   rw[A6] at z
   cases z
   exact ok
 rw[up b hb] at z
 exact(I.hok b u z).stay (fun _ _ _ q=>q) (fun c q=>by rw[up c (ne c _ q)];exact q) (fun c xs q=>by rw[up c (ne c _ q)];exact q)
noncomputable def rem (H:Hp) (a:Addr):Hp:=fun b=>if b=a then none else H b
theorem B2a{a:Addr}:rem H a a=none:=by unfold rem;rw[if_pos rfl]
theorem A3e{a b:Addr}(h:b≠a):rem H a b=H b:=by unfold rem;rw[if_neg h]
theorem Inv.forget{a:Addr}{φ:Heap ->Prop}(I:Inv X pins σ H s)(e:H a=some (.ext φ)):Inv X pins σ (rem H a) s:=by
 have ne:∀b u,H b=some u ->(∀φ,u≠ .ext φ) ->b≠a:=fun b u z q w=>by rw[w,e] at z;cases z;exact q _ rfl
 have non:∀b,H b=none ->rem H a b=none:=fun b z=>by
   by_cases q:b=a
   . rw[q];exact B2a
   . rw[A3e q];exact z
 refine⟨I.ok,I.os,I.bare,⟨I.base.keep,I.base.slot,fun b u z m hx=>non b (I.base.free b u z m hx),I.base.there,fun b xs z=>?_,fun b u v z=>?_,fun b ps z=>?_⟩,I.loc,I.cell,non _ I.free,fun x c z=>non _ (I.freeC x c z),fun p hp=>?_,fun b u z=>?_,I.len⟩
 . have:=I.base.tups b xs z
   rw[A3e (ne b _ this (fun _ q=>nomatch q))];exact this
 . have:=I.base.frzs b u v z
   rw[A3e (ne b _ this (fun _ q=>nomatch q))];exact this
 . obtain⟨more,this⟩:=I.base.tbls b ps z
   exact⟨more,by rw[A3e (ne b _ this (fun _ q=>nomatch q))];exact this⟩
 . obtain⟨q1,q2,q3⟩:=I.pin p hp
   exact⟨q1,non _ q2,q3⟩
 have hb:b≠a:=fun q=>by rw[q,B2a] at z;cases z
 rw[A3e hb] at z
 exact(I.hok b u z).stay (fun _ _ _ q=>q) (fun c q=>by rw[A3e (ne c _ q (fun _ w=>nomatch w))];exact q) (fun c xs q=>by rw[A3e (ne c _ q (fun _ w=>nomatch w))];exact q)
end
noncomputable def J1z (C:Addr) (ta tv:TE) (f:Str):TS:=fun D σ H=>tv σ H fun y H1=>ta σ H1 fun x H2=>∃e t,x= .ref e/\H2 e=some (.ext (A2e e C t none))/\
 ∀d,H2 d=none ->d≠e ->D.nx σ (upd (upd H2 e (.ext (A2e e C t (some d)))) d (.xd [(f,y)]))
section
variable{X:Cx}{o value:Expr}{f:Str}{pos pos':Pos}{ta tv:TE}{C fI:Addr}
theorem D9k(F:C8m X.K C fI)(hf:findIn X.K (.ref C) f=some none)(ha:PE X o ta)(hv:PE X value tv)(hs:swapsWith value (some (.Attribute o f pos')) pos.line X.env=pure false)(hex:X.ex=[]:=by rfl):
   PS X (.Assign [.Attribute o f pos'] value pos) (J1z C ta tv f):=by
 intro pins s σ H D I h
 refine plainObj_wpAny_Assign_Attribute (thn (hv pins s σ H _ I h) fun u s1 ⟨y,H1,I1,ry,q⟩=>thn (ha pins s1 σ H1 _ I1 q) fun ov s2 hh_=>?_) hs
 obtain⟨x,H2,I2,rx,e,t,ex,ea,q2⟩:=hh_
 subst ex
 obtain rfl:ov=Value.ref e:=rx
 have he:s2.heap.get? e=some (A0d (.ref C) t none .none):=(I2.hok e _ ea).1
 refine set_plain I2.kIn (⟨he,rfl,rfl,trivial⟩:PySem.W.InstAt s2.heap e (A0d (.ref C) t none .none) C none) F.sa (G1r (s:={s2 with toks:=s2.toks+1}) I2.kIn F he hf fun h' tk' d k1 k2 k3 k4 k5=>?_)
 have nd:H2 d=none:=I2.hok.new k4
 have I3:Inv X pins σ (upd H2 e (.ext (A2e e C t (some d)))) {s2 with heap:=h',toks:=tk'}:=
   I2.write (x:=e) (e:=e) (by rw[ea];exact trivial) (.inl rfl) (fun b u hb z=>k1 b u hb z) ⟨_,k2⟩ (C9p k2)
 have nw:Nw X pins (upd H2 e (.ext (A2e e C t (some d)))) d:=I2.nw hex k4 (by rw[C9 k5];exact nd)
 refine⟨σ,_,I3.trackO (ho:= .xd [(f,y)]) nw ⟨_,k3,fun g=>?_⟩,q2 d nd k5⟩
 show A4c (List.lookup g [(f,y)]) (if g=f then some u else none)
 by_cases z:g=f
 . rw[if_pos z,z]
   have:List.lookup f [(f,y)]=some y:=by simp[List.lookup]
   rw[this];exact ry
 rw[if_neg z]
 have:List.lookup g [(f,y)]=none:=by
   have hb:(g==f)=false:=beq_eq_false_iff_ne.mpr z
   simp[List.lookup,hb]
 rw[this];exact trivial
end
noncomputable def B7j (C:Addr) (f:Str):Sp:=fun vs H Q _=>∃e t v,vs=[.ref e,v]/\H e=some (.ext (A2e e C t none))/\∀d,H d=none ->d≠e ->Q .non (upd (upd H e (.ext (A2e e C t (some d)))) d (.xd [(f,v)]))
noncomputable def D9j (C:Addr) (f:Str) (EH:EK) (t:TA):TS:=fun _ σ H=>t σ H fun vs H1=>∃v,vs=[v]/\∀d H2,B5 H1 H2 ->H1 d=none ->H2 d=some (.xd [(f,v)]) ->EH (.ref C) (some d) σ H2
section
variable{X:Cx}{x f:Str}{p cpos pos:Pos}{e:Expr}{t:TA}{C fI:Addr}{fdI:FuncData}{ps:List Str}{EH:EK}{j k:Nat}
theorem C7m(hm:X.mg x=some (.ref C))(F:C8m X.K C fI)(G:A9 X.prog X.w X.K X.mg X.base CX0 j fI fdI ps (B7j C f))(bI:Binds X.K fdI ps [])(hr:Y9 k X.A)(hx:G7 X EH)(ha:PA X [e] t)(hj:j+1<=k:=by decide)(hg:Gl X x:=by rfl)(hex:X.ex=[]:=by rfl)
   (hdb:(x==("__debug__":Str))=false:=by decide) (he:starEach [e] X.env=(false,eval e X.env)::starEach [] X.env:=by rfl) (hpl:(backTo cpos (starEach [] X.env)).any (·.1)=false:=by rfl):
   PS X (.Raise (some (.Call (.Name x p) [e] [] cpos)) none pos) (D9j C f EH t):=by
 intro pins s σ H D I h
 obtain⟨nm,q,N,bs,bm,sn,sub,ab,col,dd,k0,k1,k2,k3,k5,lC,nO,nI,tl⟩:=F.cls
 obtain⟨oI,lI,cI⟩:=F.fn
 have T0:OwnTail X.base C4p bm:=tail_of_in I.ok.mod.kin tl
 have hN0:X.base.Ns N (X.base.nsMap N):= .of_isNs (isNs_of_in I.ok.mod.kin nO)
 have hi0:X.base.nsMap N "__init__"=some (.ref fI):=C1g I.ok.mod.kin hN0 nI
 refine A9c (C:=C) (nm:=nm) (q:=q) (N:=N) (bs:=bs) (bm:=bm) (hdct:=true) (sn:=sn) (sub:=sub) (ab:=ab) (col:=col) (dd:=dd) (k0:=k0) (k1:=k1) (k2:=k2) (k3:=k3) (k5:=k5) (oI:=oI) PySem.F.excBase_ValueError (mN:=X.base.nsMap N) (T0.hasType PySem.F.excBase_ValueError.hasBase) hr.hd
   (by rw[he];show(false||(backTo cpos (starEach [] X.env)).any (·.1))=false;rw[hpl];rfl) hi0 cI (Z8 I hg hm ⟨rfl,?_⟩ hdb)
 have ha':=ha cpos pins s σ H _ I h
 rw[he] at ha' ⊢
 refine Calls.evalArgs_plain (wpAny_mono ha' (fun us s2 hh_=>?_) fun _ _ y=>y)
 obtain⟨vs,H1,I1,r,v,ev,z⟩:=hh_
 subst ev
 obtain⟨u,rfl,ru⟩:=r.one
 refine⟨rfl,B8 (by show 1<=1000;decide),I1.kIn _ _ lC,hN0.keeps I1.bk,T0.keeps I1.bk,I1.kIn _ _ lI,fun h' a m=>?_⟩
 obtain⟨t',e1,tn,e2⟩:=m.there
 have I2:Inv X pins σ H1 {s2 with heap:=h'}:=I1.kept (t':=s2.toks) m.keeps
 have na:H1 a=none:=I1.hok.new m.new
 have I3:=I2.trackO (ho:= .ext (A2e a C t' none)) (I1.nw hex m.new na) (C9p e1)
 have sp0:B7j C f [.ref a,v] (upd H1 a (.ext (A2e a C t' none))) (fun v0 H'=>v0= .non/\∃d,H1 d=none/\d≠a/\H'=upd (upd (upd H1 a (.ext (A2e a C t' none))) a (.ext (A2e a C t' (some d)))) d (.xd [(f,v)])) E0:=
   ⟨a,t',v,rfl,A6,fun d nd nda=>⟨rfl,d,by rw[C9 nda] at nd;exact nd,nda,rfl⟩⟩
 have rr:J0 [.ref a,v] [.ref a,u]:= .cons rfl (.cons ru .nil)
 have hl:([Value.ref a,u]++ []).length=ps.length:=by
   have:=G.len _ _ _ _ sp0
   rw[<-this];rfl
 refine wpAny_call (codeAny_mono (G.run _ X.stack _ _ ⟨[.ref a,u],[]⟩ ([.ref a,u]++ []) [.ref a,v] _ E0 ((hr.mono hj).make C [u] []) (I3.env0.make C [u] []) (bI _ [.ref a,u] I3.kIn hl) rr sp0) fun r s' hq=>?_)
 cases r with
 |error e=>exact hq.elim
 | ok fl=>
   cases fl with
   | ret u0=>
     obtain⟨v0,H',I4,rv,ev,d,nd,nda,eH⟩:=I3.after hq
     subst ev eH
     have ea:(upd (upd (upd H1 a (.ext (A2e a C t' none))) a (.ext (A2e a C t' (some d)))) d (.xd [(f,v)])) a=some (.ext (A2e a C t' (some d))):=by
       rw[C9 (Ne.symm nda),A6]
     have g1:s'.heap.get? a=some (A0d (.ref C) t' (some d) .none):=(I4.hok a _ ea).1
     refine⟨rv,I4.kIn _ _ lC,⟨t',some d,g1⟩,?_⟩
     refine hx pins σ _ s' a t' (.ref C) (some d) (I4.forget ea) ⟨I1.nw hex m.new B2a,.none,g1,.inl rfl,fun T z=>nomatch z⟩ (z d _ (fun b ob q=>?_) nd ?_)
     . have nb:b≠a:=D5 q na
       have nbd:b≠d:=D5 q nd
       rw[A3e nb,C9 nbd,C9 nb,C9 nb]
       exact q
     . rw[A3e nda,A6]
   |next=>exact hq.elim
   |brk=>exact hq.elim
   |cont=>exact hq.elim
end
theorem D4a{prog:Program}{w:World}{A:Around}{E:Value ->Shared ->Prop}{s:Shared}{K:Frag}{a C:Addr}{oa:Obj}{od:Option Obj}{name:Str}{v:Value}{b:Bool}{Q:Value ->Shared ->Prop}(F:C3c K C)(X:K.In s.heap)(I:PySem.W.InstAt s.heap a oa C od)
   (hf:findObj K C od name=some (.value v)) (hh:handedIn v=true) (h:Q v {s with toks:=s.toks+1}):wpAny (model prog w) A (getAttr (.ref a) name b) Q E s:=by
 obtain⟨hp,g,d,t,os⟩:=s
 have L0:=I.type (M:=model prog w)
 have L1:=looks_findIn (M:=model prog w) X F.ga
 have L2:=looks_findIn (M:=model prog w) X F.gh
 have L3:Looks (model prog w) hp (isInstance (.ref a) (.type "BaseException")) true:=L0.andThen (looks_subIn X F.be)
 have L4:=looks_find (M:=model prog w) X I hf
 have hk:builtinKind "BaseException.__getattribute__"=some .slot:=by decide+kernel
 have hsplit:splitId "BaseException.__getattribute__"=some ("BaseException","__getattribute__"):=by decide+kernel
 have hargs:=PySem.F.args_bexc_ga (.ref a) (.str name t)
 have hb:=PySem.F.attr_ValueError.ga.bind (.ref a)
 unfold getAttr getAttrBy
 refine wpAny_bind (wpAny_mkText (wpAny_holding (wpAny_bind (L0.at (wpAny_bind (L1.at ?_))))))
 dsimp only
 rw[if_neg (show¬((onTheHeap (Value.ref C)&&Value.builtin "BaseException.__getattribute__"==Value.builtin "object.__getattribute__")=true) by
   rw[show(Value.builtin "BaseException.__getattribute__"==Value.builtin "object.__getattribute__")=false by decide+kernel,Bool.and_false];exact Bool.false_ne_true)]
 unfold getAttrByItsOwn
 refine wpAny_bind (m:=hookBefore (.ref C)) (L2.at ?_)
 refine wpAny_bind (wpAny_attempt (wpAny_holding ?_))
 unfold callGetattribute
 rw[if_neg (show¬((b&&onTheHeap (Value.builtin "BaseException.__getattribute__"))=true) by
   rw[show onTheHeap (Value.builtin "BaseException.__getattribute__")=false from rfl,Bool.and_false];exact Bool.false_ne_true)]
 unfold boundAndCalled
 rw[hb]
 refine wpAny_bind (wpAny_pure ?_)
 refine wpAny_call (codeAny_call_builtin PySem.F.attr_ValueError.ga.plain PySem.F.entry_bexc_ga ?_)
 have chk:∀{A':Around} {Q':Unit ->Shared ->Prop} {E':Value ->Shared ->Prop},Q' () ⟨hp,g,d,t+1,os⟩ ->wpAny (model prog w) A' (checkBuiltinCall "BaseException.__getattribute__" ⟨[.ref a,.str name t],[]⟩) Q' E' ⟨hp,g,d,t+1,os⟩:=by
   intro A' Q' E' hq
   simp only[checkBuiltinCall,hk,hsplit]
   refine wpAny_bind ?_
   refine L3.at ?_
   repeat (first|assumption|wp_step)
 refine chk ?_
 show wpAny _ _ (Builtin.«object.__getattribute__» ⟨[.ref a, .str name t], []⟩) _ _ _
 unfold Builtin.«object.__getattribute__»
 refine wpAny_bind (wpAny_pure ?_)
 refine wpAny_bind (wpAny_pure ?_)
 refine wpAny_bind (L0.at (wpAny_bind (L4.at ?_)))
 dsimp only
 refine wpAny_pure ?_
 exact handed_on hh h
noncomputable def G3s (K:Frag) (ta:TE) (f:Str):TE:=fun σ H Q=>ta σ H fun x H1=>∃a C t T d u fs v,x= .ref a/\H1 a=some (.frz (A0d (.ref C) t (some d) T) u)/\H1 d=some (.xd fs)/\C3c K C/\(∃cd,clsIn K C=some cd/\cd.hasDict=true)/\findIn K (.ref C) f=some none/\fs.lookup f=some v/\Q v H1
section
variable{X:Cx}{e:Expr}{f:Str}{pos:Pos}{ta:TE}
theorem G1d(he:PE X e ta)(hb:attributeBase e f X.env (eval e X.env)=eval e X.env):PE X (.Attribute e f pos) (G3s X.K ta f):=by
 intro pins s σ H Q I h
 refine C5f hb (thn (he pins s σ H _ I h) fun u s1 hh_=>?_)
 obtain⟨x,H1,I1,rx,a,C,t,T,d,u0,fs,v,ex,ea,hd,k,⟨cd,hc,hD⟩,hn,l,q⟩:=hh_
 subst ex
 obtain rfl:u=Value.ref a:=rx
 have o1:s1.heap.get? a=some (A0d (.ref C) t (some d) T):=(I1.hok a _ ea).1
 obtain⟨mA,nA,rA⟩:=(show∃mA,s1.heap.Ns1 d mA/\∀f,A4c (fs.lookup f) (mA f) from I1.hok d _ hd)
 obtain⟨od,o2,lk⟩:=A8z nA
 obtain⟨uv,hu,ru⟩:=A4c.some_of (v:=v) (o:=mA f) (by rw[<-l];exact rA f)
 have J:PySem.W.InstAt s1.heap a (A0d (.ref C) t (some d) T) C (some od):=⟨o1,rfl,rfl,o2⟩
 have hf:findObj X.K C (some od) f=some (.value uv):=by
   unfold findObj
   rw[hc,Option.bind_some,hn,Option.bind_some]
   show((PySem.W.ownOf cd (some od) f).bind _)=_
   unfold PySem.W.ownOf
   rw[hD,if_pos rfl]
   show((lookIn f od).bind _)=_
   rw[lk f,hu]
   rfl
 exact D4a k I1.kIn J hf (B3q ru) ⟨v,H1,I1.tok _,ru,q⟩
end
noncomputable def A0j (z:Str) (n:Int):Str:=if n<1 then Str.empty else if(n==1||z.length==0)=true then z else⟨(List.replicate n.toNat z.cps).foldl (· ++ ·) #[]⟩
theorem B4t(z:Array Nat):∀(k:Nat) (acc:Array Nat),((List.replicate k z).foldl (· ++ ·) acc).toList=acc.toList++(List.replicate k z.toList).flatten
 |0,acc=>by simp
 | k+1,acc=>by
   rw[List.replicate_succ,List.foldl_cons,B4t z k,Array.toList_append,List.replicate_succ,List.flatten_cons,List.append_assoc]
theorem A2n(z:Str):z.cps.toList.length=z.length:=Array.length_toList
theorem B8q(z:Str)(n:Int):(A0j z n).cps.toList=(List.replicate n.toNat z.cps.toList).flatten:=by
 unfold A0j
 split
 . have:n.toNat=0:=by omega
   rw[this];rfl
 split
 . rename_i h1 h2
   rcases Bool.or_eq_true _ _|>.mp h2 with h|h
   . have:n=1:=by simpa using h
     subst this
     simp
   . have e:z.length=0:=by simpa using h
     have e2:z.cps.toList=[]:=List.eq_nil_of_length_eq_zero (by rw[A2n];exact e)
     rw[e2]
     have:∀k:Nat,(List.replicate k ([]:List Nat)).flatten=[]:=fun k=>by simp
     rw[this]
 show((List.replicate n.toNat z.cps).foldl (· ++ ·) #[]).toList=_
 rw[B4t]
 rfl
theorem C0k(z:Str)(n:Int):(A0j z n).length=n.toNat*z.length:=by
 rw[<-A2n,B8q,D9s,A2n]
section
variable{X:Cx}
theorem A0p:A3z X (.type "int") (fun xs H Q=>∃z n,xs=[.str z]/\PySem.intText? z=some n/\z.length<=640/\Q (.int n) H):=by
 intro pins s σ H xs us Q I r h
 obtain⟨z,n,rfl,h1,h2,q⟩:=h
 obtain⟨u,rfl,t,rfl⟩:=B4v r
 exact KIN.call_text h1 h2 ⟨.int n,H,I.tok _,⟨_,rfl⟩,q⟩
end
section
variable{X:Cx}
noncomputable def J2k:V ->List V ->Hp ->VK ->Prop:=fun x vs H Q=>∃i,x= .int i/\vs=[]/\Q (.int ((Builtin.Int.intBits i:Nat):Int)) H
theorem B3g:MtR X "int.bit_length" J2k:=by
 intro pins s σ H x xs v us Q I rx rs h
 obtain⟨i,rfl,rfl,q⟩:=h
 obtain⟨t,rfl⟩:=rx
 cases rs
 exact call_int_bit_length ⟨.int _,H,I.tok _,⟨_,rfl⟩,q⟩
end
section
variable{X:Cx}{a b:Expr}{rest:List Expr}{pos:Pos}{ta tb:TE}
end
section
variable{X:Cx}{j k:Nat}{f C:Addr}{fd:FuncData}{ps:List Str}{sp:Sp}{dvs:List V}{ds:List Value}{x m:Str}{p pos apos:Pos}{e o:Expr}{es:List Expr}{ta:TE}{t:TA}{st:Stmt}
theorem G0a{pins:List (Addr×Obj)}{σ:St}{H:Hp}{s:Shared}{Q:VK}{us:List Value}{vs:List V}(F:A9 X.prog X.w X.K X.mg X.base (CX1 X.prog X.w) k f fd ps sp)(hr:Y9 k X.A)(hb:Binds X.K fd ps ds)(hd:J0 dvs ds)
   (I:Inv X pins σ H s) (r:J0 vs us) (h:sp (vs++dvs) H Q (fun C d H'=>EKF C d σ H')):wpAny (model X.prog X.w) X.A (call (.ref f) us) (EP X pins σ Q) X.xe s:=by
 have r2:J0 (vs++dvs) (us++ds):=r.append hd
 have hl:(us++ds).length=ps.length:=by rw[<-r2.length];exact F.len _ _ _ _ h
 refine wpAny_call (codeAny_mono (F.run X.A X.stack s H ⟨us,[]⟩ (us++ds) (vs++dvs) Q _ hr I.env0 (hb s us I.kIn hl) r2 h) fun r s' hq=>?_)
 cases r with
 | error e=>
   obtain⟨a,t,C,dd,H',_,_,_,_,_,hE,_⟩:=hq
   exact False.elim hE
 | ok fl=>
   cases fl with
   |ret u=>exact I.after hq
   |next=>exact False.elim hq
   |brk=>exact False.elim hq
   |cont=>exact False.elim hq
theorem G5w(D:Def X.K X.mg x ps st f fd)(F:A9 X.prog X.w X.K X.mg X.base (CX1 X.prog X.w) j f fd ps sp)(hr:Y9 k X.A)(ha:PA X (e::es) t)(hj:j<=k:=by decide)(hg:Gl X x:=by rfl)(hdb:(x==("__debug__":Str))=false:=by decide)
   (he:starEach (e::es) X.env=(false,eval e X.env)::starEach es X.env:=by rfl) (hpl:(backTo pos (starEach es X.env)).any (·.1)=false:=by rfl):PE X (.Call (.Name x p) (e::es) [] pos) (A8u sp [] EKF t):=by
 intro pins s σ H Q I h
 refine wpAny_Call_Name_kw (Z8 I hg D.g ?_ hdb)
 refine PySem.W.callWith_K (h₀:=X.base) I.ok.mod.kin D.F.kp (thn (ha pos pins s σ H _ I h) fun us s1 ⟨vs,H1,I1,r,q⟩=>⟨I1.kIn,?_⟩) he hpl
 exact G0a (F.mono hj) hr D.b .nil I1 r q
end
section
variable{X:Cx}{N F:List Str}{js:List Nat}{scope:Scope}
theorem A9a{pins:List (Addr×Obj)}{σ:St}{H:Hp}{s:Shared}{fp:List Addr}{h':Heap}(S:G0 N F js scope X.N X.env)(I:Inv X pins σ H s)(hf:∀b∈fp,A2y X pins H b)(hit:∀b∈fp,∃o,s.heap.get? b=some o)(hnb:∀b∈fp,X.base.get? b=none)
   (hns:h'.Ns s.heap.objs.size (fun _=>none)) (hsb:∀b o,s.heap.get? b=some o ->h'.get? b=some o) {tk:Nat}:
   Inv (X.compF scope N F s.heap.objs.size s H fp (X.pn++pins)) [] (List.replicate N.length none++A3f js σ) H {s with heap:=h',toks:=tk}:=by
 have ck:∀c v,s.heap.IsCell c v ->h'.IsCell c v:=fun c v ⟨o,e,d⟩=>⟨o,hsb _ _ e,d⟩
 have inF:∀x,((compEnvC scope (A1n F X.env) s.heap.objs.size X.env).kindOf x=some .cell\/(compEnvC scope (A1n F X.env) s.heap.objs.size X.env).kindOf x=some .free) ->x∈F:=by
   intro x z
   have z:(relabel scope X.env).names.lookup x=some .cell\/(relabel scope X.env).names.lookup x=some .free:=z
   rcases z with z|z
   . exact S.fr _ (PySem.mem_of_lookup z) (.inl rfl)
   . exact S.fr _ (PySem.mem_of_lookup z) (.inr rfl)
 refine⟨⟨I.ok.mod,S.kind,I.ok.glob,I.ok.blt,Nat.le_refl _,fun x y c z z'=>I.ok.inj x y c (S.sub x c z) (S.sub y c z'),fun x z=>?_,fun x c z _=>(nomatch z),I.ok.hd,I.ok.frames,.inl rfl,fun b hb=>?_,I.bs,Nat.le_trans I.ok.bsz I.sz,fun b o e hb=>?_,fun b hb hfs=>?_,I.stack,I.stkFree⟩,
   rfl,I.bare,Un.kept hsb,⟨_,hns,fun i x v e1 e2 e3=>B5b S I (fun x c v _ z=>ck c v z) i x v e1 e2⟩,fun x c z=>?_,I.hok.fresh (Nat.le_refl _),fun x c z=>I.freeC x c (S.sub x c z),fun p hp=>?_,I.hok.kept hsb,D1y S σ⟩
 . obtain⟨c,h1,_⟩:=S.has (inF x z)
   exact⟨c,h1⟩
 . obtain⟨oi,ei⟩:=hit b hb
   exact⟨Nat.ne_of_lt (Heap.lt_size ei),fun x c z=>(hf b hb).2.2.2.2.1 x c (S.sub x c z)⟩
 . rw[hnb b hb] at e
   cases e
 . rcases List.mem_cons.mp (I.stkSub b hfs) with z|z
   . exact(hf b hb).2.1 z
   . exact(hf b hb).2.2.1 z
 . obtain⟨v,z'⟩:=I.cell x c (S.sub x c z)
   exact⟨v,ck c v z'⟩
 have hp':p∈X.pn++pins:=by simpa using hp
 obtain⟨q1,q2,q3,q4,q5⟩:=I.pin p hp'
 refine⟨hsb _ _ q1,q2,Nat.ne_of_lt (Heap.lt_size q1),fun z=>?_,q5⟩
 rcases List.mem_cons.mp (I.stkSub p.1 z) with z|z
 . exact q3 z
 exact q4 z
theorem A6g{pins pl:List (Addr×Obj)}{σ σ':St}{H H':Hp}{s s':Shared}{fp:List Addr}(S:G0 N F js scope X.N X.env)(I:Inv X pins σ H s)(hf:∀b∈fp,A2y X pins H b)(J:Inv (X.compF scope N F s.heap.objs.size s H fp (X.pn++pins)) pl σ' H' s'):
   Inv (X.compF scope N F s.heap.objs.size s H fp (X.pn++pins)) [] (List.replicate N.length none++A3f js σ) H' s':=by
 obtain⟨m,hn,_⟩:=J.loc
 refine⟨J.ok,J.os,J.bare,J.base,⟨m,hn,fun i x v e1 e2 e3=>B5b S I (fun x c v z q=>?_) i x v e1 e2⟩,J.cell,J.free,J.freeC,fun p hp=>J.pin p (by
   have hp:p∈(X.pn++pins)++ []:=hp
   rw[List.append_nil] at hp
   exact List.mem_append_left _ hp),J.hok,D1y S σ⟩
 obtain⟨o,e,d⟩:=q
 have ne:c ∉ fp:=fun w=>(hf c w).2.2.2.2.1 x c z rfl
 obtain⟨sl,q⟩:=J.base.any e (I.freeC x c z) ne
 exact⟨_,q,d⟩
theorem C0h{elt target iter c:Expr}{scope:Scope}{pos:Pos}{N F:List Str}{js:List Nat}{wi:TI}{g:TG}{tc:TT}{te:TE}(S:G0 N F js scope X.N X.env)(hd:A2a X)(hc0:X.calm=true)(hi:PI X target iter wi)(hex:X.ex=[])
   (hg:∀C s₀ H₀ ex pn,A2a (X.compF scope N F C s₀ H₀ ex pn) ->PG (X.compF scope N F C s₀ H₀ ex pn) target g)
   (hc:∀C s₀ H₀ ex pn,A2a (X.compF scope N F C s₀ H₀ ex pn) ->PT (X.compF scope N F C s₀ H₀ ex pn) c tc)
   (he:∀C s₀ H₀ ex pn,A2a (X.compF scope N F C s₀ H₀ ex pn) ->PE (X.compF scope N F C s₀ H₀ ex pn) elt te)
   {pins:List (Addr×Obj)} {s:Shared} {σ:St} {H:Hp} {Q:VK} {RR:Value ->Env ->Result ->Shared ->Prop} (I:Inv X pins σ H s) (h:(C0q N.length js wi g tc te) σ H Q)
   (hRR:∀(D C:Addr) (s6:Shared) (H5:Hp) (mm:Str ->Option Value),Inv X pins σ H5 s6 ->s6.heap.Ns C mm ->A2y X pins H5 C ->Q (.ref D) H5 ->RR (.ref D) (compEnvC scope (A1n F X.env) C X.env) (.ok .next) s6):
   wpAny (model X.prog X.w) X.A (eval iter X.env) (fun v s1=>wpAny (model X.prog X.w) X.A (pyIter v) (fun itv s2=>wpAny (model X.prog X.w) X.A (newList []) (fun acc s3=>wpAny (model X.prog X.w) X.A (newFunctionEnv scope X.env.globals (A1n F X.env) [] X.env.qual none .none (some X.env)) (fun cenv s4=>
     codeAny (model X.prog X.w) X.A (.compStart (.ListComp elt [⟨target,iter,[c],0⟩] scope pos) 0 itv acc {cenv with scope:=relabel scope X.env}) (RR acc {cenv with scope:=relabel scope X.env}) s4) X.xe s3) X.xe s2) X.xe s1) X.xe s:=by
 refine thn (hi pins s σ H _ I h) fun v s1 h1=>thn h1 fun itv s2 h2=>?_
 obtain⟨it,fp,tn,J,H2,rfl,I2,T,st2,f2,R⟩:=h2
 have ob2:=T.obj _ _ st2
 have hf2:=I2.hok.fresh (Nat.le_refl _)
 refine wpAny_newObj_type ?_
 have I3:Inv X pins σ (upd H2 s2.heap.objs.size (.lst [])) {s2 with heap:=s2.heap.push {cls:= .type "list",dict:=none,data:= .seq ([]:List Value).toArray}}:=Inv.lnew (t':=s2.toks) I2 .nil (Nat.zero_le _)
 refine wpAny_newFunctionEnv S.cell (by intro y hy;simp at hy) (fun h4 hns hsb=>?_) S.kind
 dsimp only at hns hsb ⊢
 generalize hG:s2.heap.push {cls:= .type "list",dict:=none,data:= .seq ([]:List Value).toArray}=G at I3 hns hsb ⊢
 generalize hD:s2.heap.objs.size=D at I3 hf2
 have nD:∀b∈fp,b≠D:=fun b hb=>by
   obtain⟨o,eo,_⟩:=ob2 b hb
   rw[<-hD];exact Nat.ne_of_lt (Heap.lt_size eo)
 have eiG:∀b∈fp,∃o,G.get? b=some o:=fun b hb=>by
   obtain⟨o,eo,_⟩:=ob2 b hb
   exact⟨o,by rw[<-hG];exact Heap.get?_push_of_some _ eo⟩
 have kp:∀b o,G.get? b=some o ->h4.get? b=some o:=fun b o e=>hsb.extBut b o (Nat.ne_of_lt (Heap.lt_size e)) (Heap.get?_push_of_some _ e)
 have f3:∀b∈fp,A2y X pins (upd H2 D (.lst [])) b:=fun b hb=>⟨by rw[C9 (nD b hb)];exact(f2 b hb).1,(f2 b hb).2⟩
 have nb:∀b∈fp,X.base.get? b=none:=fun b hb=>by
   cases q:X.base.get? b with
   |none=>rfl
   | some o=>
     have:=(I.ok.bs b o q).1
     rcases(f2 b hb).2.2.2.1 with z|z
     . rw[hex] at z;simp at z
     . exact absurd (Nat.lt_of_lt_of_le (Heap.lt_size this) z) (Nat.lt_irrefl _)
 have hns':h4.Ns G.objs.size (fun _=>none):=by
   obtain⟨o,es,ep,q1,q2,q3,q4⟩:=hns
   exact⟨o,es,ep,q1,q2,q3,fun x=>by rw[q4];rfl⟩
 have I4:=A9a (tk:=s2.toks+([]:List (Str×Value)).length) S I3 f3 eiG nb hns' kp
 have hdc:A2a (X.compF scope N F G.objs.size {s2 with heap:=G} (upd H2 D (.lst [])) fp (X.pn++pins)):=by
   rcases hd with z|⟨x,o,u,vs,z,e,d,n⟩
   . exact .inl z
   . refine .inr ⟨x,o,u,vs,z,?_,d,n⟩
     have q:=I2.base.frzs x o u e
     show upd H2 D (.lst []) x=_
     rw[C9 fun w=>by rw[w,hf2] at q;cases q]
     exact q
 obtain⟨m,W,w0,turn⟩:=R D hf2
 have gg:=hg _ _ _ _ _ hdc
 have cc:=hc _ _ _ _ _ hdc
 have ee:=he _ _ _ _ _ hdc
 have fpc:∀{H':Hp} {σ':St} {s':Shared} {pl:List (Addr×Obj)},Inv (X.compF scope N F G.objs.size {s2 with heap:=G} (upd H2 D (.lst [])) fp (X.pn++pins)) pl σ' H' s' ->(∀b∈fp,H' b=none) ->(∀b∈fp,∀p∈pl,p.1≠b) ->∀b∈fp,A2y (X.compF scope N F G.objs.size {s2 with heap:=G} (upd H2 D (.lst [])) fp (X.pn++pins)) pl H' b:=by
   intro H' σ' s' pl J' hn hp b hb
   obtain⟨oi,ei⟩:=eiG b hb
   refine⟨hn b hb,Nat.ne_of_lt (Heap.lt_size ei),?_,.inl hb,(fun x c z=>(f2 b hb).2.2.2.2.1 x c (S.sub x c z)),fun p hpp=>?_⟩
   . intro z
     rcases List.mem_cons.mp (I.stkSub b z) with z|z
     . exact(f2 b hb).2.1 z
     . exact(f2 b hb).2.2.1 z
   . rcases List.mem_append.mp hpp with z|z
     . exact(f2 b hb).2.2.2.2.2 p z
     . exact hp b hb p z
 have loop:codeAny (model X.prog X.w) X.A (.compLoop (.ListComp elt [⟨target,iter,[c],0⟩] scope pos) 0 (.ref it) (.ref D) (compEnvC scope (A1n F X.env) G.objs.size X.env))
     (RR (.ref D) (compEnvC scope (A1n F X.env) G.objs.size X.env))
     {s2 with heap:=h4,toks:=s2.toks+([]:List (Str×Value)).length}:=by
   refine kct_loop (fun k s'=>∃i ys H',k=m+1-i/\Inv (X.compF scope N F G.objs.size {s2 with heap:=G} (upd H2 D (.lst [])) fp (X.pn++pins)) [] (List.replicate N.length none++A3f js σ) H' s'/\tn i s'.heap/\(∀b∈fp,H' b=none)/\W i ys H') ?_ (m+1)
     ⟨0,[],_,rfl,I4,T.keep _ _ _ st2 fun b hb o e=>kp b o (by rw[<-hG];exact Heap.get?_push_of_some _ e),fun b hb=>(f3 b hb).1,w0⟩
   rintro k s5 ⟨i,ys,H5,rfl,I5,st5,n5,w5⟩
   obtain⟨hi5,hD5,w5⟩:=turn i ys H5 w5
   rcases w5 with⟨stop,q⟩|⟨lt5,go,step⟩
   . refine wpAny_mono (T.done (X.compF scope N F G.objs.size {s2 with heap:=G} (upd H2 D (.lst [])) fp (X.pn++pins)) rfl rfl rfl hc0 i [] s5 _ H5 (fun _ _=>False) I5 (fpc I5 n5 (by simp)) st5 stop) (fun r s6 z=>?_) (fun _ _ z=>z.elim)
     obtain⟨rfl,I6⟩:=z
     obtain⟨mm,hn6,_⟩:=I6.loc
     have B6:=I6.base
     have J6:Inv X pins σ H5 s6:=by
       refine I3.call' (ch:=fp) I6.os ⟨B6.keep,B6.slot,B6.free,B6.there,B6.tups,B6.frzs,B6.tbls⟩ I6.hok I6.bare (fun b hb=>⟨(f2 b hb).2.2.2.1,(f2 b hb).2.1,(f2 b hb).2.2.2.2.1,(f2 b hb).2.2.2.2.2⟩)
     have szG:X.s₀.heap.objs.size<=G.objs.size:=I3.sz
     refine hRR D G.objs.size s6 H5 mm J6 hn6 ⟨I6.free,?_,?_,.inr szG,?_,?_⟩ q
     . exact Nat.ne_of_gt I3.lt
     . intro z
       obtain⟨_,o,ho,_⟩:=I3.funs.mem z
       exact Nat.lt_irrefl _ (Heap.lt_size ho)
     . rintro x c z rfl
       obtain⟨v',o,ho,_⟩:=I3.cell x _ z
       exact Nat.lt_irrefl _ (Heap.lt_size ho)
     . rintro p hp z
       have zz:=(I3.pin p hp).1
       rw[z] at zz
       exact Nat.lt_irrefl _ (Heap.lt_size zz)
   . refine wpAny_mono (T.item (X.compF scope N F G.objs.size {s2 with heap:=G} (upd H2 D (.lst [])) fp (X.pn++pins)) rfl rfl rfl hc0 i [] s5 _ H5 (fun _ _=>False) I5 (fpc I5 n5 (by simp)) st5 go) (fun r s6 z=>?_) (fun _ _ z=>z.elim)
     obtain⟨u,rfl,z⟩:=z
     refine wpAny_mono z (fun _ s7 z=>?_) (fun _ _ z=>z.elim)
     obtain⟨x,H7,I7,rx,yl,st7,fr7⟩:=z
     have ob7:=T.obj _ _ st7
     have I7':Inv (X.compF scope N F G.objs.size {s2 with heap:=G} (upd H2 D (.lst [])) fp (X.pn++pins)) (Y5 fp s7.heap) (List.replicate N.length none++A3f js σ) H7 s7:=I7.pinned (fpc I7 fr7 (by simp)) ob7
     have back:∀{i':Nat} {ys':List V} {H':Hp} {σ':St} {s':Shared},i'=i+1 ->Inv (X.compF scope N F G.objs.size {s2 with heap:=G} (upd H2 D (.lst [])) fp (X.pn++pins)) (Y5 fp s7.heap) σ' H' s' ->W i' ys' H' ->
         ∃k',k'<m+1-i/\∃i ys H',k'=m+1-i/\Inv (X.compF scope N F G.objs.size {s2 with heap:=G} (upd H2 D (.lst [])) fp (X.pn++pins)) [] (List.replicate N.length none++A3f js σ) H' s'/\tn i s'.heap/\(∀b∈fp,H' b=none)/\W i ys H':=by
       rintro i' ys' H' σ' s' rfl J' w'
       refine⟨m+1-(i+1),by omega,i+1,ys',H',rfl,A6g S I3 f3 J',T.keep _ _ _ st7 fun b hb o z=>(J'.pin (b,o) (List.mem_append_right _ (A0b hb z))).1,fun b hb=>?_,w'⟩
       obtain⟨o,eo,_⟩:=ob7 b hb
       exact(J'.pin (b,o) (List.mem_append_right _ (A0b hb eo))).2.1
     refine wpAny_mono (gg (Y5 fp s7.heap) s7 _ H7 x u _ I7' rx (step x H7 yl)) (fun _ s8 z=>?_) (fun _ _ z=>z.elim)
     obtain⟨σ8,H8,I8,q8⟩:=z
     refine wpAny_mono (cc (Y5 fp s7.heap) s8 σ8 H8 _ I8 q8) (fun b s9 z=>?_) (fun _ _ z=>z.elim)
     obtain⟨H9,I9,q9⟩:=z
     cases b with
     | false=>
       simp only[Bool.false_eq_true,if_false] at q9 ⊢
       exact back rfl I9 q9
     | true=>
       simp only[if_true] at q9 ⊢
       refine wpAny_mono (ee (Y5 fp s7.heap) s9 σ8 H9 _ I9 q9) (fun y s10 z=>?_) (fun _ _ z=>z.elim)
       obtain⟨yv,H10,I10,ry,hD10,hz10,w10⟩:=z
       refine wpAny_mono (A2x (X:=X.compF scope N F G.objs.size {s2 with heap:=G} (upd H2 D (.lst [])) fp (X.pn++pins)) (Y5 fp s7.heap) s10 σ8 H10 (.ref D) [yv] (.ref D) [y] (fun _ H11=>W (i+1) (ys++ [yv]) H11) I10 rfl (.cons ry .nil) ⟨D,ys,yv,rfl,rfl,hD10,hz10,w10⟩) (fun _ s11 z=>?_) (fun _ _ z=>z.elim)
       obtain⟨_,H11,I11,_,w11⟩:=z
       exact back rfl I11 w11
 exact codeAny_compStart_list loop (T.self _ 0 _ _ _ (T.keep _ _ _ st2 fun b hb o e=>kp b o (by rw[<-hG];exact Heap.get?_push_of_some _ e)) loop)
theorem B9j{elt target iter:Expr}{scope:Scope}{pos:Pos}{N F:List Str}{js:List Nat}{wi:TI}{g:TG}{te:TE}(S:G0 N F js scope X.N X.env)(hd:A2a X)(hc0:X.calm=true)(hi:PI X target iter wi)(hex:X.ex=[])
   (hg:∀C s₀ H₀ ex pn,A2a (X.compF scope N F C s₀ H₀ ex pn) ->PG (X.compF scope N F C s₀ H₀ ex pn) target g)
   (he:∀C s₀ H₀ ex pn,A2a (X.compF scope N F C s₀ H₀ ex pn) ->PE (X.compF scope N F C s₀ H₀ ex pn) elt te)
   {pins:List (Addr×Obj)} {s:Shared} {σ:St} {H:Hp} {Q:VK} {RR:Value ->Env ->Result ->Shared ->Prop} (I:Inv X pins σ H s) (h:(C5b N.length js wi g te) σ H Q)
   (hRR:∀(D C:Addr) (s6:Shared) (H5:Hp) (mm:Str ->Option Value),Inv X pins σ H5 s6 ->s6.heap.Ns C mm ->A2y X pins H5 C ->Q (.ref D) H5 ->RR (.ref D) (compEnvC scope (A1n F X.env) C X.env) (.ok .next) s6):
   wpAny (model X.prog X.w) X.A (eval iter X.env) (fun v s1=>wpAny (model X.prog X.w) X.A (pyIter v) (fun itv s2=>wpAny (model X.prog X.w) X.A (newList []) (fun acc s3=>wpAny (model X.prog X.w) X.A (newFunctionEnv scope X.env.globals (A1n F X.env) [] X.env.qual none .none (some X.env)) (fun cenv s4=>
     codeAny (model X.prog X.w) X.A (.compStart (.ListComp elt [⟨target,iter,[],0⟩] scope pos) 0 itv acc {cenv with scope:=relabel scope X.env}) (RR acc {cenv with scope:=relabel scope X.env}) s4) X.xe s3) X.xe s2) X.xe s1) X.xe s:=by
 refine thn (hi pins s σ H _ I h) fun v s1 h1=>thn h1 fun itv s2 h2=>?_
 obtain⟨it,fp,tn,J,H2,rfl,I2,T,st2,f2,R⟩:=h2
 have ob2:=T.obj _ _ st2
 have hf2:=I2.hok.fresh (Nat.le_refl _)
 refine wpAny_newObj_type ?_
 have I3:Inv X pins σ (upd H2 s2.heap.objs.size (.lst [])) {s2 with heap:=s2.heap.push {cls:= .type "list",dict:=none,data:= .seq ([]:List Value).toArray}}:=Inv.lnew (t':=s2.toks) I2 .nil (Nat.zero_le _)
 refine wpAny_newFunctionEnv S.cell (by intro y hy;simp at hy) (fun h4 hns hsb=>?_) S.kind
 dsimp only at hns hsb ⊢
 generalize hG:s2.heap.push {cls:= .type "list",dict:=none,data:= .seq ([]:List Value).toArray}=G at I3 hns hsb ⊢
 generalize hD:s2.heap.objs.size=D at I3 hf2
 have nD:∀b∈fp,b≠D:=fun b hb=>by
   obtain⟨o,eo,_⟩:=ob2 b hb
   rw[<-hD];exact Nat.ne_of_lt (Heap.lt_size eo)
 have eiG:∀b∈fp,∃o,G.get? b=some o:=fun b hb=>by
   obtain⟨o,eo,_⟩:=ob2 b hb
   exact⟨o,by rw[<-hG];exact Heap.get?_push_of_some _ eo⟩
 have kp:∀b o,G.get? b=some o ->h4.get? b=some o:=fun b o e=>hsb.extBut b o (Nat.ne_of_lt (Heap.lt_size e)) (Heap.get?_push_of_some _ e)
 have f3:∀b∈fp,A2y X pins (upd H2 D (.lst [])) b:=fun b hb=>⟨by rw[C9 (nD b hb)];exact(f2 b hb).1,(f2 b hb).2⟩
 have nb:∀b∈fp,X.base.get? b=none:=fun b hb=>by
   cases q:X.base.get? b with
   |none=>rfl
   | some o=>
     have:=(I.ok.bs b o q).1
     rcases(f2 b hb).2.2.2.1 with z|z
     . rw[hex] at z;simp at z
     . exact absurd (Nat.lt_of_lt_of_le (Heap.lt_size this) z) (Nat.lt_irrefl _)
 have hns':h4.Ns G.objs.size (fun _=>none):=by
   obtain⟨o,es,ep,q1,q2,q3,q4⟩:=hns
   exact⟨o,es,ep,q1,q2,q3,fun x=>by rw[q4];rfl⟩
 have I4:=A9a (tk:=s2.toks+([]:List (Str×Value)).length) S I3 f3 eiG nb hns' kp
 have hdc:A2a (X.compF scope N F G.objs.size {s2 with heap:=G} (upd H2 D (.lst [])) fp (X.pn++pins)):=by
   rcases hd with z|⟨x,o,u,vs,z,e,d,n⟩
   . exact .inl z
   . refine .inr ⟨x,o,u,vs,z,?_,d,n⟩
     have q:=I2.base.frzs x o u e
     show upd H2 D (.lst []) x=_
     rw[C9 fun w=>by rw[w,hf2] at q;cases q]
     exact q
 obtain⟨m,W,w0,turn⟩:=R D hf2
 have gg:=hg _ _ _ _ _ hdc
 have ee:=he _ _ _ _ _ hdc
 have fpc:∀{H':Hp} {σ':St} {s':Shared} {pl:List (Addr×Obj)},Inv (X.compF scope N F G.objs.size {s2 with heap:=G} (upd H2 D (.lst [])) fp (X.pn++pins)) pl σ' H' s' ->(∀b∈fp,H' b=none) ->(∀b∈fp,∀p∈pl,p.1≠b) ->∀b∈fp,A2y (X.compF scope N F G.objs.size {s2 with heap:=G} (upd H2 D (.lst [])) fp (X.pn++pins)) pl H' b:=by
   intro H' σ' s' pl J' hn hp b hb
   obtain⟨oi,ei⟩:=eiG b hb
   refine⟨hn b hb,Nat.ne_of_lt (Heap.lt_size ei),?_,.inl hb,(fun x c z=>(f2 b hb).2.2.2.2.1 x c (S.sub x c z)),fun p hpp=>?_⟩
   . intro z
     rcases List.mem_cons.mp (I.stkSub b z) with z|z
     . exact(f2 b hb).2.1 z
     . exact(f2 b hb).2.2.1 z
   . rcases List.mem_append.mp hpp with z|z
     . exact(f2 b hb).2.2.2.2.2 p z
     . exact hp b hb p z
 have loop:codeAny (model X.prog X.w) X.A (.compLoop (.ListComp elt [⟨target,iter,[],0⟩] scope pos) 0 (.ref it) (.ref D) (compEnvC scope (A1n F X.env) G.objs.size X.env))
     (RR (.ref D) (compEnvC scope (A1n F X.env) G.objs.size X.env))
     {s2 with heap:=h4,toks:=s2.toks+([]:List (Str×Value)).length}:=by
   refine B7x (fun k s'=>∃i ys H',k=m+1-i/\Inv (X.compF scope N F G.objs.size {s2 with heap:=G} (upd H2 D (.lst [])) fp (X.pn++pins)) [] (List.replicate N.length none++A3f js σ) H' s'/\tn i s'.heap/\(∀b∈fp,H' b=none)/\W i ys H') ?_ (m+1)
     ⟨0,[],_,rfl,I4,T.keep _ _ _ st2 fun b hb o e=>kp b o (by rw[<-hG];exact Heap.get?_push_of_some _ e),fun b hb=>(f3 b hb).1,w0⟩
   rintro k s5 ⟨i,ys,H5,rfl,I5,st5,n5,w5⟩
   obtain⟨hi5,hD5,w5⟩:=turn i ys H5 w5
   rcases w5 with⟨stop,q⟩|⟨lt5,go,step⟩
   . refine wpAny_mono (T.done (X.compF scope N F G.objs.size {s2 with heap:=G} (upd H2 D (.lst [])) fp (X.pn++pins)) rfl rfl rfl hc0 i [] s5 _ H5 (fun _ _=>False) I5 (fpc I5 n5 (by simp)) st5 stop) (fun r s6 z=>?_) (fun _ _ z=>z.elim)
     obtain⟨rfl,I6⟩:=z
     obtain⟨mm,hn6,_⟩:=I6.loc
     have B6:=I6.base
     have J6:Inv X pins σ H5 s6:=by
       refine I3.call' (ch:=fp) I6.os ⟨B6.keep,B6.slot,B6.free,B6.there,B6.tups,B6.frzs,B6.tbls⟩ I6.hok I6.bare (fun b hb=>⟨(f2 b hb).2.2.2.1,(f2 b hb).2.1,(f2 b hb).2.2.2.2.1,(f2 b hb).2.2.2.2.2⟩)
     have szG:X.s₀.heap.objs.size<=G.objs.size:=I3.sz
     refine hRR D G.objs.size s6 H5 mm J6 hn6 ⟨I6.free,?_,?_,.inr szG,?_,?_⟩ q
     . exact Nat.ne_of_gt I3.lt
     . intro z
       obtain⟨_,o,ho,_⟩:=I3.funs.mem z
       exact Nat.lt_irrefl _ (Heap.lt_size ho)
     . rintro x c z rfl
       obtain⟨v',o,ho,_⟩:=I3.cell x _ z
       exact Nat.lt_irrefl _ (Heap.lt_size ho)
     . rintro p hp z
       have zz:=(I3.pin p hp).1
       rw[z] at zz
       exact Nat.lt_irrefl _ (Heap.lt_size zz)
   . refine wpAny_mono (T.item (X.compF scope N F G.objs.size {s2 with heap:=G} (upd H2 D (.lst [])) fp (X.pn++pins)) rfl rfl rfl hc0 i [] s5 _ H5 (fun _ _=>False) I5 (fpc I5 n5 (by simp)) st5 go) (fun r s6 z=>?_) (fun _ _ z=>z.elim)
     obtain⟨u,rfl,z⟩:=z
     refine wpAny_mono z (fun _ s7 z=>?_) (fun _ _ z=>z.elim)
     obtain⟨x,H7,I7,rx,yl,st7,fr7⟩:=z
     have ob7:=T.obj _ _ st7
     have I7':Inv (X.compF scope N F G.objs.size {s2 with heap:=G} (upd H2 D (.lst [])) fp (X.pn++pins)) (Y5 fp s7.heap) (List.replicate N.length none++A3f js σ) H7 s7:=I7.pinned (fpc I7 fr7 (by simp)) ob7
     have back:∀{i':Nat} {ys':List V} {H':Hp} {σ':St} {s':Shared},i'=i+1 ->Inv (X.compF scope N F G.objs.size {s2 with heap:=G} (upd H2 D (.lst [])) fp (X.pn++pins)) (Y5 fp s7.heap) σ' H' s' ->W i' ys' H' ->
         ∃k',k'<m+1-i/\∃i ys H',k'=m+1-i/\Inv (X.compF scope N F G.objs.size {s2 with heap:=G} (upd H2 D (.lst [])) fp (X.pn++pins)) [] (List.replicate N.length none++A3f js σ) H' s'/\tn i s'.heap/\(∀b∈fp,H' b=none)/\W i ys H':=by
       rintro i' ys' H' σ' s' rfl J' w'
       refine⟨m+1-(i+1),by omega,i+1,ys',H',rfl,A6g S I3 f3 J',T.keep _ _ _ st7 fun b hb o z=>(J'.pin (b,o) (List.mem_append_right _ (A0b hb z))).1,fun b hb=>?_,w'⟩
       obtain⟨o,eo,_⟩:=ob7 b hb
       exact(J'.pin (b,o) (List.mem_append_right _ (A0b hb eo))).2.1
     refine wpAny_mono (gg (Y5 fp s7.heap) s7 _ H7 x u _ I7' rx (step x H7 yl)) (fun _ s8 z=>?_) (fun _ _ z=>z.elim)
     obtain⟨σ8,H8,I8,q8⟩:=z
     refine wpAny_mono (ee (Y5 fp s7.heap) s8 σ8 H8 _ I8 q8) (fun y s10 z=>?_) (fun _ _ z=>z.elim)
     obtain⟨yv,H10,I10,ry,hD10,hz10,w10⟩:=z
     refine wpAny_mono (A2x (X:=X.compF scope N F G.objs.size {s2 with heap:=G} (upd H2 D (.lst [])) fp (X.pn++pins)) (Y5 fp s7.heap) s10 σ8 H10 (.ref D) [yv] (.ref D) [y] (fun _ H11=>W (i+1) (ys++ [yv]) H11) I10 rfl (.cons ry .nil) ⟨D,ys,yv,rfl,rfl,hD10,hz10,w10⟩) (fun _ s11 z=>?_) (fun _ _ z=>z.elim)
     obtain⟨_,H11,I11,_,w11⟩:=z
     exact back rfl I11 w11
 exact codeAny_compStart_list loop (T.self _ 0 _ _ _ (T.keep _ _ _ st2 fun b hb o e=>kp b o (by rw[<-hG];exact Heap.get?_push_of_some _ e)) loop)
theorem D2f{elt target iter:Expr}{c:Expr}{tc:TT}{pos:Pos}{wi:TI}{g:TG}{te:TE}(S:G0 N F js scope X.N X.env)(hd:A2a X)(hc0:X.calm=true)(hi:PI X target iter wi)(hex:X.ex=[])
   (hg:∀C s₀ H₀ ex pn,A2a (X.compF scope N F C s₀ H₀ ex pn) ->PG (X.compF scope N F C s₀ H₀ ex pn) target g)
   (hc:∀C s₀ H₀ ex pn,A2a (X.compF scope N F C s₀ H₀ ex pn) ->PT (X.compF scope N F C s₀ H₀ ex pn) c tc)
   (he:∀C s₀ H₀ ex pn,A2a (X.compF scope N F C s₀ H₀ ex pn) ->PE (X.compF scope N F C s₀ H₀ ex pn) elt te)
   (hs:∀x,foldedSetIterable iter X.env x=pure x:=by intro _;rfl):PE X (.ListComp elt [⟨target,iter,[c],0⟩] scope pos) (C0q N.length js wi g tc te):=by
 intro pins s σ H Q I h
 rw[eval_ListComp]
 refine wpAny_comprehension_free (use:=none) rfl hs S.clos S.kind S.loc (C0h S hd hc0 hi hex hg hc he I h (RR:=fun acc ce r s'=>compPost (model X.prog X.w) X.A X.xe none (EP X pins σ Q) acc ce.locals r s') ?_)
 intro D C s6 H5 mm I6 n6 f6 q
 exact⟨mm,n6,fun h' sb=>⟨.ref D,H5,C3w I6 f6 sb,rfl,q⟩⟩
theorem A5e{elt target iter:Expr}{pos:Pos}{wi:TI}{g:TG}{te:TE}(S:G0 N F js scope X.N X.env)(hd:A2a X)(hc0:X.calm=true)(hi:PI X target iter wi)(hex:X.ex=[])
   (hg:∀C s₀ H₀ ex pn,A2a (X.compF scope N F C s₀ H₀ ex pn) ->PG (X.compF scope N F C s₀ H₀ ex pn) target g)
   (he:∀C s₀ H₀ ex pn,A2a (X.compF scope N F C s₀ H₀ ex pn) ->PE (X.compF scope N F C s₀ H₀ ex pn) elt te)
   (hs:∀x,foldedSetIterable iter X.env x=pure x:=by intro _;rfl):PE X (.ListComp elt [⟨target,iter,[],0⟩] scope pos) (C5b N.length js wi g te):=by
 intro pins s σ H Q I h
 rw[eval_ListComp]
 refine wpAny_comprehension_free (use:=none) rfl hs S.clos S.kind S.loc (B9j S hd hc0 hi hex hg he I h (RR:=fun acc ce r s'=>compPost (model X.prog X.w) X.A X.xe none (EP X pins σ Q) acc ce.locals r s') ?_)
 intro D C s6 H5 mm I6 n6 f6 q
 exact⟨mm,n6,fun h' sb=>⟨.ref D,H5,C3w I6 f6 sb,rfl,q⟩⟩
end
theorem G0.of0{N:List Str}{sc:Scope}{XN:List Str}{env:Env}(S:G4b N [] sc)(clos:closureFor sc env=pure (A1n [] env)):G0 N [] [] sc XN env:=
 ⟨S.kind,S.cell,S.loc,S.nd,clos,B1n S.cell S.fr,fun k y h=>by simp at h,rfl⟩
section
variable{X:Cx}{pins:List (Addr×Obj)}{σ:St}{H:Hp}{s:Shared}{h':Heap}
end
section
variable{X:Cx}{es:List Expr}{k:Nat}{tp:Pos}
end
noncomputable def J1x (D:Addr) (H H':Hp):Prop:=∀b o,H b=some o ->b≠D ->H' b=some o
theorem A8s{J:It}{g:TG}{te:TE}{σ0:St}{H1:Hp}{QD:Addr ->Hp ->Prop}{n:Nat}(R:Nat ->V ->Hp ->Prop)(hn:n<=1000)
   (mono:∀i y H' H'' D l,R i y H' ->H' D=some (.lst l) ->J1x D H' H'' ->R i y H'')
   (step:∀i H2 Qy,i<n ->B5 H1 H2 ->(∀y H6,B5 H2 H6 ->R i y H6 ->Qy y H6) ->J.go i H2/\∀x H3,J.yld i H2 x H3 ->g x σ0 H3 fun σ4 H4=>te σ4 H4 Qy)
   (stop:∀H2,B5 H1 H2 ->J.stop n H2)
   (k:∀D H' ys,B5 H1 H' ->H1 D=none ->H' D=some (.lst ys) ->ys.length=n ->(∀i y,ys[i]?=some y ->R i y H') ->QD D H'):∀D,H1 D=none ->
   ∃ (m:Nat) (W:Nat ->List V ->Hp ->Prop),W 0 [] (upd H1 D (.lst []))/\∀i ys H2,W i ys H2 ->i<=m/\H2 D=some (.lst ys)/\((J.stop i H2/\QD D H2)\/(i<m/\J.go i H2/\∀x H3,J.yld i H2 x H3 ->
     g x σ0 H3 fun σ4 H4=>te σ4 H4 fun y H6=>H6 D=some (.lst ys)/\ys.length<sizeLine/\W (i+1) (ys++ [y]) (upd H6 D (.lst (ys++ [y]))))):=by
 intro D hD
 refine⟨n,fun i ys H2=>i<=n/\ys.length=i/\H2 D=some (.lst ys)/\B5 H1 H2/\∀j y,ys[j]?=some y ->R j y H2,⟨Nat.zero_le _,rfl,A6,B5.upd hD,fun j y h=>by simp at h⟩,?_⟩
 rintro i ys H2 ⟨hi,hl,hd,sm,hR⟩
 refine⟨hi,hd,?_⟩
 by_cases hlt:i<n
 . refine .inr ⟨hlt,step i H2 _ hlt sm fun y H6 s6 r6=>?_⟩
   have d6:H6 D=some (.lst ys):=s6 _ _ hd
   have ex:J1x D H6 (upd H6 D (.lst (ys++ [y]))):=fun b o e hb=>by rw[C9 hb];exact e
   refine⟨d6,Nat.lt_of_le_of_lt (by omega:ys.length<=1000) (Y6 (Nat.le_refl _)),hlt,by simp[hl],A6,fun b o e=>?_,fun j z hj=>?_⟩
   . rw[C9 (D5 e hD)]
     exact s6 _ _ (sm _ _ e)
   . by_cases hj':j<ys.length
     . rw[List.getElem?_append_left hj'] at hj
       exact mono j z H6 _ D ys (mono j z H2 H6 D ys (hR j z hj) hd fun b o e _=>s6 _ _ e) d6 ex
     . rw[List.getElem?_append_right (by omega)] at hj
       have e0:j-ys.length=0:=by
         apply Classical.byContradiction
         intro q
         rw[List.getElem?_eq_none (by simp;omega)] at hj
         cases hj
       rw[e0] at hj
       have ej:j=i:=by omega
       subst ej
       cases hj
       exact mono _ _ H6 _ D ys r6 d6 ex
 have e:i=n:=by omega
 subst e
 exact .inl ⟨stop H2 sm,k D H2 ys sm hD hd hl hR⟩
open AutoSeq1 (wpAny_loadPart')
section
variable{prog:Program}{w:World}{A:Around}{E:Value ->Shared ->Prop}{s:Shared}
end
section
variable{X:Cx}{es:List Expr}{k:Nat}{tp:Pos}
end
end L2
namespace L2
open PySem PySem.Spec PyProof.Rows PySem.W
section
variable{X:Cx}
end
end L2
namespace L2
open PySem PySem.W PyProof.Rows
section
variable{X:Cx}{o e:Expr}{ta:TE}{m:Str}{apos pos:Pos}{j k:Nat}{ps:List Str}{ι:Type}{cw f:ι ->Addr}{fd:ι ->FuncData}{sp:ι ->Sp}{EH:EK}
end
theorem thk{α:Type}{t:Sem α}{Q Q':α ->Shared ->Prop}{M:Model}{A:Around}{E:Value ->Shared ->Prop}{s:Shared}(h0:0<s.toks)(h:wpAny M A t Q E s)(hQ:∀a s,0<s.toks ->Q a s ->Q' a s):wpAny M A t Q' E s:=
 wpAny_with_toks (n:=1) h0 (wpAny_mono h (fun a s q p=>hQ a s p q) (fun e s q _=>q))
noncomputable def G2c (X:Cx) (st:List Stmt) (t:TS):Prop:=∀(pins:List (Addr×Obj)) (s:Shared) (σ:St) (H:Hp) (D:A9r),0<s.toks ->Inv X pins σ H s ->t D σ H ->wpAny (model X.prog X.w) X.A (execs st X.env) (SP X pins D) X.xe s
section
variable{X:Cx}{a b e o:Expr}{es:List Expr}{ta tb te to:TE}{t:TA}{pos:Pos}{st:Stmt}{rest:List Stmt}{ts u:TS}
end
end L2
namespace L2
open PySem PySem.Spec PyProof.Rows PySem.W
section
variable{X:Cx}{x f:Str}{p cpos pos:Pos}{e:Expr}{t:TA}{C fI:Addr}{fdI:FuncData}{ps:List Str}{j k:Nat}
end
section
variable{X:Cx}{x y:Str}{e:Expr}{t:TE}{p q:Pos}{pos pos2:Pos}
end
end L2
namespace L2
open PySem PySem.Spec PyProof.Rows
end L2
namespace L2
open PySem PySem.Spec PyProof.Rows PySem.W
mutual
inductive RdR(H:Hp):V ->PyData ->Prop where
 |non:RdR H .non .none
 |bl (b:Bool):RdR H (.bl b) (.bool b)
 |int (i:Int):RdR H (.int i) (.int i)
 |str (x:Str):RdR H (.str x) (.str x)
 |tup {a:Addr} {xs:List V} {ds:List PyData} (h:H a=some (.tup xs)) (r:A5u H xs ds):RdR H (.ref a) (.tuple ds)
 |lst {a:Addr} {xs:List V} {ds:List PyData} (h:H a=some (.lst xs)) (n:a≠sysModules) (r:A5u H xs ds):RdR H (.ref a) (.list ds)
 |dct0 {a:Addr} (h:H a=some (.dK [])):RdR H (.ref a) (.dict [])
 |dct1 {a:Addr} {z:Str} {b:Bool} (h:H a=some (.dK [(.inr z,.bl b)])):RdR H (.ref a) (.dict [(.str z,.bool b)])
inductive A5u(H:Hp):List V ->List PyData ->Prop where
 |nil:A5u H [] []
 |cons {x:V} {xs:List V} {d:PyData} {ds:List PyData} (h:RdR H x d) (r:A5u H xs ds):A5u H (x::xs) (d::ds)
end
mutual
theorem RdR.same{H H':Hp}(s:∀b o,H b=some o ->H' b=some o):∀{x:V} {d:PyData},RdR H x d ->RdR H' x d
 |_,_,.non=> .non
 |_,_,.bl b=> .bl b
 |_,_,.int i=> .int i
 |_,_,.str x=> .str x
 |_,_,.tup h r=> .tup (s _ _ h) (A5u.same s r)
 |_,_,.lst h n r=> .lst (s _ _ h) n (A5u.same s r)
 |_,_,.dct0 h=> .dct0 (s _ _ h)
 |_,_,.dct1 h=> .dct1 (s _ _ h)
theorem A5u.same{H H':Hp}(s:∀b o,H b=some o ->H' b=some o):∀{x:List V} {d:List PyData},A5u H x d ->A5u H' x d
 |_,_,.nil=> .nil
 |_,_,.cons h r=> .cons (RdR.same s h) (A5u.same s r)
end
section
variable{X:Cx}
mutual
theorem RdR.reads{pins:List (Addr×Obj)}{σ:St}{H:Hp}{s:Shared}(I:Inv X pins σ H s):∀{x:V} {d:PyData} {u:Value},RdR H x d ->U4 x u ->∃as,Reads s.heap u d as/\sysModules ∉ as
 |_,_,_,.non,r=>by cases r;exact⟨_,.none,by simp⟩
 |_,_,_,.bl b,r=>by cases r;exact⟨_,.bool b,by simp⟩
 |_,_,_,.int i,r=>by obtain⟨t,rfl⟩:=r;exact⟨_,.int i t,by simp⟩
 |_,_,_,.str x,r=>by obtain⟨t,rfl⟩:=r;exact⟨_,.str x t,by simp⟩
 | _,_,_,.tup h q,r=>by
   cases r
   obtain⟨_,its,rv,o,e,c,n,d⟩:=I.hok _ _ h
   obtain⟨as,z,y⟩:=A5u.reads I q rv
   exact⟨_,.tuple e c d (by simpa using z),y⟩
 | _,_,_,.lst (a:=a) h nn q,r=>by
   cases r
   obtain⟨_,its,n,rv,e⟩:=I.hok _ _ h
   obtain⟨as,z,y⟩:=A5u.reads I q rv
   refine⟨_,.list e rfl rfl (by simpa using z),fun hm=>?_⟩
   rcases List.mem_cons.mp hm with hm|hm
   . exact nn hm.symm
   . exact y hm
 | _,_,_,.dct0 (a:=a) h,r=>by
   cases r
   obtain⟨_,nS,vs,kv,o,es,ep,e,c,d,_,ps,_⟩:=I.hok _ _ h
   cases kv
   cases hp:es.toList with
   |cons _ _=>rw[hp] at ps;cases ps
   | nil=>
     refine⟨_,.dict (kvs:=[]) e c.1 d (by rw[hp];exact .nil) (by rw[hp];exact .nil),fun hm=>?_⟩
     exact beq_eq_false_iff_ne.mp nS (by simpa using hm:sysModules=a).symm
 | _, _, _,.dct1 (a:=a) (z:=z) (b:=b) h,r=>by
   cases r
   obtain⟨_,nS,vs,kv,o,es,ep,e,c,d,_,ps,_⟩:=I.hok _ _ h
   cases kv with
   | cons k1 k2=>
     cases k2
     obtain⟨k1a,k1b⟩:=k1
     cases ps':es.toList with
     |nil=>rw[ps'] at ps;cases ps
     | cons en rest=>
       rw[ps'] at ps
       cases ps with
       | cons p1 p2 p3=>
         cases p3
         have hk:∃t,en.key= .str z t:=by
           rw[<-k1a] at p1
           have p1:Value.isStrOf z en.key=true:=p1
           cases hk:en.key<;>rw[hk] at p1<;>simp[Value.isStrOf] at p1
           subst p1
           exact⟨_,rfl⟩
         obtain⟨t,hk⟩:=hk
         have hv:en.val= .bool b:=p2.trans k1b
         refine⟨_,.dict (kvs:=[(.str z,.bool b)]) e c.1 d (by rw[ps'];show ReadsAll s.heap [en.key] [.str z] _;rw[hk];exact .cons (.str z t) .nil) (by rw[ps'];show ReadsAll s.heap [en.val] [.bool b] _;rw[hv];exact .cons (.bool b) .nil),fun hm=>?_⟩
         exact beq_eq_false_iff_ne.mp nS (by simpa using hm:sysModules=a).symm
theorem A5u.reads{pins:List (Addr×Obj)}{σ:St}{H:Hp}{s:Shared}(I:Inv X pins σ H s):∀{xs:List V} {ds:List PyData} {us:List Value},A5u H xs ds ->J0 xs us ->∃as,ReadsAll s.heap us ds as/\sysModules ∉ as
 |_,_,_,.nil,r=>by cases r;exact⟨_,.nil,by simp⟩
 | _,_,_,.cons h q,r=>by
   cases r with
   | cons r1 r2=>
     obtain⟨as,z,n1⟩:=RdR.reads I h r1
     obtain⟨bs,y,n2⟩:=A5u.reads I q r2
     exact⟨_,.cons z y,by simp[n1,n2]⟩
end
end
section
variable{X:Cx}{j k:Nat}{f C:Addr}{fd:FuncData}{ps:List Str}{sp:Sp}{dvs:List V}{ds:List Value}{x m:Str}{p pos apos:Pos}{e o:Expr}{es:List Expr}{ta:TE}{t:TA}{st:Stmt}
end
section
variable{cs:List Addr}{H H' H2:Hp}{b:Addr}{P:Program}{w:World}{h h':Heap}{fs:List Addr}
end
section
variable{X:Cx}{j k:Nat}{f:Addr}{fd:FuncData}{ps:List Str}{sp:Sp}{ds:List Value}{EH:EK}{x:Str}{p pos:Pos}{e:Expr}{es:List Expr}{t:TA}{st:Stmt}
end
section
variable{X:Cx}
end
section
variable{X:Cx}{tg:Expr}
end
section
variable{X:Cx}
theorem A1d{e:Expr}:PE X e (fun _ _ _=>False):=fun _ _ _ _ _ _ h=>h.elim
end
section
variable{prog:Program}{w:World}{A:Around}{E:Value ->Shared ->Prop}{s:Shared}
end
section
variable{X:Cx}{pos:Pos}
end
section
variable{X:Cx}{pos tpos pa pb:Pos}
end
section
variable{X:Cx}{N F:List Str}{js:List Nat}{scope:Scope}
end
section
variable{X:Cx}{tg:Expr}
end
section
variable{X:Cx}{pins:List (Addr×Obj)}{σ:St}{H:Hp}{s:Shared}
end
section
variable{X:Cx}{tg:Expr}
end
end L2
namespace TR
open PySem L2 PySem.W PyProof.Rows
structure G8w(K:Frag):Prop where
 isi:nsIn K mainGlobals "isinstance"=some none
 int_:nsIn K mainGlobals "int"=some none
 bool_:nsIn K mainGlobals "bool"=some none
 str_:nsIn K mainGlobals "str"=some none
 list_:nsIn K mainGlobals "list"=some none
 tuple_:nsIn K mainGlobals "tuple"=some none
 dict_:nsIn K mainGlobals "dict"=some none
 len_:nsIn K mainGlobals "len"=some none
 range_:nsIn K mainGlobals "range"=some none
 min_:nsIn K mainGlobals "min"=some none
 max_:nsIn K mainGlobals "max"=some none
 abs_:nsIn K mainGlobals "abs"=some none
 any_:nsIn K mainGlobals "any"=some none
 all_:nsIn K mainGlobals "all"=some none
 sum_:nsIn K mainGlobals "sum"=some none
 repr_:nsIn K mainGlobals "repr"=some none
 enumerate_:nsIn K mainGlobals "enumerate"=some none
 reversed_:nsIn K mainGlobals "reversed"=some none
 zip_:nsIn K mainGlobals "zip"=some none
 sorted_:nsIn K mainGlobals "sorted"=some none
 divmod_:nsIn K mainGlobals "divmod"=some none
 set_:nsIn K mainGlobals "set"=some none
 ValueError_:nsIn K mainGlobals "ValueError"=some none
theorem G8w.go{K:Frag}{h:Heap}{mg:Str ->Option Value}(u:G8w K)(X:K.In h)(G:h.Ns mainGlobals mg):Own mg:=⟨mg_none_of X G u.isi,mg_none_of X G u.int_,mg_none_of X G u.bool_,mg_none_of X G u.str_,mg_none_of X G u.list_,mg_none_of X G u.tuple_,mg_none_of X G u.dict_,mg_none_of X G u.len_,mg_none_of X G u.range_,mg_none_of X G u.min_,mg_none_of X G u.max_,mg_none_of X G u.abs_,mg_none_of X G u.any_,mg_none_of X G u.all_,mg_none_of X G u.sum_,mg_none_of X G u.repr_,mg_none_of X G u.enumerate_,mg_none_of X G u.reversed_,mg_none_of X G u.zip_,mg_none_of X G u.sorted_,mg_none_of X G u.divmod_,mg_none_of X G u.set_,mg_none_of X G u.ValueError_⟩
end TR
namespace L2
open PySem PySem.Spec PyProof.Rows PySem.W
section
variable{X:Cx}{j k:Nat}{f:Addr}{EH:EK}{x y:Str}{p p1 pos:Pos}
end
section
variable{X:Cx}{N F:List Str}{js:List Nat}{scope:Scope}
end
section
variable{X:Cx}{N F:List Str}{js:List Nat}{scope:Scope}
end
theorem D0f{X:Cx}{ss:List Stmt}:PSs X ss (fun _ _ _=>False):=fun _ _ _ _ _ _ h=>h.elim
section
variable{P:Program}{w:World}{K:Frag}{mg:Str ->Option Value}{base:Heap}{k:Nat}{f:Addr}{fd:FuncData}{ps:List Str}{sp:Sp}
end
section
variable{P:Program}{w:World}{K:Frag}{mg:Str ->Option Value}{base:Heap}
end
section
variable{X:Cx}{k j:Nat}{f C:Addr}{fd:FuncData}{ps:List Str}{sp:Sp}{dvs:List V}{ds:List Value}{EH:EK}{x m:Str}{st:Stmt}{p pos apos:Pos}{e o:Expr}{es:List Expr}{ta:TE}{t:TA}
end
section
variable{X:Cx}
end
section
variable{X:Cx}{x:Str}{p cpos pos:Pos}{e:Expr}{es:List Expr}{t:TA}{C:Addr}{bmB:List Value}{B newId initId:String}{EH:EK}
end
section
variable{X:Cx}{x f:Str}{p cpos pos:Pos}{e:Expr}{t:TA}{C fI:Addr}{fdI:FuncData}{ps:List Str}{EH:EK}{j k:Nat}
end
end L2
namespace TR
open PySem L2 PySem.W PyProof.Rows
end TR
namespace L2
open PySem PySem.Spec PyProof.Rows PySem.W
section
variable{X:Cx}{x n:Str}{np hpos pos:Pos}{R:Addr}{i:Nat}{body suite:List Stmt}{b₀:Stmt}{tb:EK ->TS}{ts:Addr ->TS}
end
section
variable{X:Cx}{k j:Nat}{f C:Addr}{fd:FuncData}{ps:List Str}{sp:Sp}{dvs:List V}{ds:List Value}{m:Str}{pos apos:Pos}{e o:Expr}{es:List Expr}{ta:TE}{t:TA}
end
section
variable{X:Cx}{j k:Nat}{f C:Addr}{fd:FuncData}{ps:List Str}{sp:Sp}{dvs:List V}{ds:List Value}{x m:Str}{p pos apos:Pos}{e o:Expr}{es:List Expr}{ta:TE}{t:TA}{st:Stmt}
end
section
variable{X:Cx}
end
section
variable{X:Cx}
end
section
variable{X:Cx}
end
end L2
namespace L2
open PySem PySem.Spec PyProof.Rows
end L2
namespace L2
open PySem PySem.Spec PyProof.Rows PySem.W
section
variable{X:Cx}
noncomputable def G6c:V ->List V ->Hp ->VK ->Prop:=fun x vs H Q=>∃z,x= .str z/\vs=[]/\(Txt.lower z).length<=sizeLine/\Q (.str (Txt.lower z)) H
theorem D3j:MtR X "str.lower" G6c:=by
 intro pins s σ H x vs v us Q I rx rv h
 obtain⟨z,rfl,rfl,hz,q⟩:=h
 obtain⟨t,rfl⟩:=(show∃t,v=Value.str z t from rx)
 rw[rv.zero]
 exact SC.lower (B1a hz) ⟨.str _,H,I.tok _,⟨_,rfl⟩,q⟩
noncomputable def G6a:V ->List V ->Hp ->VK ->Prop:=fun x vs H Q=>∃z y,x= .str z/\vs=[.str y]/\z.length<=sizeLine/\Q (.str (Txt.stripChars z y)) H
theorem B8b:MtR X "str.strip" G6a:=by
 intro pins s σ H x vs v us Q I rx rv h
 obtain⟨z,y,rfl,rfl,hz,q⟩:=h
 obtain⟨t,rfl⟩:=(show∃t,v=Value.str z t from rx)
 obtain⟨u,rfl,ru⟩:=rv.one
 obtain⟨k,rfl⟩:=(show∃k,u=Value.str y k from ru)
 exact SC.stripChars (fun t' k=>⟨.str _,H,I.tok _,⟨_,rfl⟩,q⟩) hz
noncomputable def G0j:V ->List V ->Hp ->VK ->Prop:=fun x vs H Q=>∃z y,x= .str z/\vs=[.str y]/\z.length<=sizeLine/\Q (.str (Txt.lstripChars z y)) H
theorem C8k:MtR X "str.lstrip" G0j:=by
 intro pins s σ H x vs v us Q I rx rv h
 obtain⟨z,y,rfl,rfl,hz,q⟩:=h
 obtain⟨t,rfl⟩:=(show∃t,v=Value.str z t from rx)
 obtain⟨u,rfl,ru⟩:=rv.one
 obtain⟨k,rfl⟩:=(show∃k,u=Value.str y k from ru)
 exact SC.lstripChars (fun t' k=>⟨.str _,H,I.tok _,⟨_,rfl⟩,q⟩) hz
noncomputable def G8b:V ->List V ->Hp ->VK ->Prop:=fun x vs H Q=>∃z i,x= .str z/\vs=[.int i]/\PadOk i=true/\Q (.str (Txt.zfill z i)) H
theorem D0p:MtR X "str.zfill" G8b:=by
 intro pins s σ H x vs v us Q I rx rv h
 obtain⟨z,i,rfl,rfl,hp,q⟩:=h
 obtain⟨t,rfl⟩:=(show∃t,v=Value.str z t from rx)
 obtain⟨u,rfl,ru⟩:=rv.one
 obtain⟨k,rfl⟩:=(show∃k,u=Value.int i k from ru)
 exact SC.zfill hp (fun t' k=>⟨.str _,H,I.tok _,⟨_,rfl⟩,q⟩)
noncomputable def G0k:V ->List V ->Hp ->VK ->Prop:=fun x vs H Q=>∃z y,x= .str z/\vs=[.str y]/\Q (.bl (Txt.startswith z y)) H
theorem A9h:MtR X "str.startswith" G0k:=by
 intro pins s σ H x vs v us Q I rx rv h
 obtain⟨z,y,rfl,rfl,q⟩:=h
 obtain⟨t,rfl⟩:=(show∃t,v=Value.str z t from rx)
 obtain⟨u,rfl,ru⟩:=rv.one
 obtain⟨k,rfl⟩:=(show∃k,u=Value.str y k from ru)
 exact SC.startswith ⟨.bl _,H,I,rfl,q⟩
theorem C2w (x : Str) (t : Tok) (l : Addr) (a b : Str) (ta tb : Tok) (n : Nat) (dd : Option Addr) (sl : Array (Option Value)) : Meets (Builtin.«str.startswith» { pos := [Value.str x t, Value.ref l] }) fun _ R s => s.heap.get? l = some { cls := .type "tuple", dict := dd, data := Data.seq #[.str a ta, .str b tb] n, slots := sl } /\ R (Except.ok (Flow.ret (.bool (Txt.startswith x a || Txt.startswith x b)))) s :=
 Meets.of_wp fun prog w A R s h=>by
   obtain⟨hl,h⟩:=h
   refine wpAny_bind (wpAny_of_eq (show Builtin.Str.strSomeArgs "startswith" 1 3 {pos:=[Value.str x t,Value.ref l]}=pure (Value.str x t,x,[Value.ref l]) from rfl) ?_)
   refine wpAny_bind (wpAny_of_eq (show Builtin.Str.searchRange x.length []=pure (0,min x.length x.length) from rfl) ?_)
   refine wpAny_bind ?_
   refine wpAny_bind (wpAny_load hl ?_)
   refine wpAny_pure ?_
   refine wpAny_bind (wpAny_isInstance (T:="tuple") (U:="tuple") (b:=true) ⟨_,hl,rfl⟩ ?_ ?_)
   . exact sub_tuple_self
   refine wpAny_ite_true rfl ?_
   refine wpAny_bind (wpAny_rule ?_)
   refine wpAny_bind (wpAny_seqItems hl rfl ?_)
   refine wpAny_bind ?_
   rw[<-Array.forIn_toList]
   rw[List.forIn_cons]
   refine wpAny_bind ?_
   refine wpAny_bind ?_
   refine wpAny_pure ?_
   have key:∀y,(decide (0+y.length<=min x.length x.length)&&Builtin.Str.subAt x y 0)=Txt.startswith x y:=fun y=>by
     rw[Nat.min_self]
     rfl
   cases h1:Txt.startswith x a with
   | true=>
     refine wpAny_ite_true (decide_eq_true ((key a).trans h1)) ?_
     refine wpAny_bind (wpAny_pure ?_)
     refine wpAny_pure ?_
     refine wpAny_pure ?_
     refine wpAny_pure ?_
     rw[h1] at h
     exact⟨_,rfl,h⟩
   | false=>
     refine wpAny_ite_false (decide_eq_false (fun z=>Bool.false_ne_true (h1.symm.trans ((key a).symm.trans z)))) ?_
     refine wpAny_pure ?_
     show wpAny _ _ (forIn [Value.str b tb] (none,()) _) _ _ _
     rw[List.forIn_cons]
     refine wpAny_bind ?_
     refine wpAny_bind ?_
     refine wpAny_pure ?_
     rw[h1,Bool.false_or] at h
     cases h2:Txt.startswith x b with
     | true=>
       refine wpAny_ite_true (decide_eq_true ((key b).trans h2)) ?_
       refine wpAny_bind (wpAny_pure ?_)
       refine wpAny_pure ?_
       refine wpAny_pure ?_
       refine wpAny_pure ?_
       rw[h2] at h
       exact⟨_,rfl,h⟩
     | false=>
       refine wpAny_ite_false (decide_eq_false (fun z=>Bool.false_ne_true (h2.symm.trans ((key b).symm.trans z)))) ?_
       refine wpAny_pure ?_
       show wpAny _ _ (forIn [] (none,()) _) _ _ _
       rw[List.forIn_nil]
       refine wpAny_pure ?_
       rw[h2] at h
       exact wpAny_pure ⟨_,rfl,h⟩
noncomputable def D1d:V ->List V ->Hp ->VK ->Prop:=fun x vs H Q=>∃z p a b,x= .str z/\vs=[.ref p]/\H p=some (.tup [.str a,.str b])/\Q (.bl (Txt.startswith z a||Txt.startswith z b)) H
theorem C2d:MtR X "str.startswith" D1d:=by
 intro pins s σ H x vs v us Q I rx rv h
 obtain⟨z,p,a,b,rfl,rfl,hp,q⟩:=h
 obtain⟨t,rfl⟩:=(show∃t,v=Value.str z t from rx)
 obtain⟨u,rfl,ru⟩:=rv.one
 cases ru
 obtain⟨_,items,r,⟨ob,e,hc,n,hd⟩⟩:=(show Z9 X.prog X.w H s.heap p (.tup [.str a,.str b]) from I.hok p _ hp)
 obtain⟨u1,u2,rfl,⟨k1,rfl⟩,⟨k2,rfl⟩⟩:=D3s r
 obtain⟨c,dd,dt,sl⟩:=ob
 cases hc
 cases hd
 exact call_meets F.slot_str_startswith (typeIs_str _ _ _) F.entry_str_startswith (F.args_str_startswith_2 _ _) (C2w z t p a b k1 k2 n dd sl) ⟨e,.bl _,H,I,rfl,q⟩
noncomputable def J2w:V ->List V ->Hp ->VK ->Prop:=fun x vs H Q=>∃z y,x= .str z/\vs=[.str y]/\(y.length==0)=false/\z.length<=sizeLine/\∀p,H p=none ->Q (.ref p) (upd H p (.tup [.str (Txt.partition z y).1,.str (Txt.partition z y).2.1,.str (Txt.partition z y).2.2]))
theorem C4a:MtR X "str.partition" J2w:=by
 intro pins s σ H x vs v us Q I rx rv h
 obtain⟨z,y,rfl,rfl,hy,hz,q⟩:=h
 obtain⟨t,rfl⟩:=(show∃t,v=Value.str z t from rx)
 obtain⟨u,rfl,ru⟩:=rv.one
 obtain⟨k,rfl⟩:=(show∃k,u=Value.str y k from ru)
 refine call_meets F.slot_str_partition (typeIs_str _ _ _) F.entry_str_partition (F.args_str_partition_2 _ _) (meets_str_partition z y t k hy hz) ?_
 have fin:∀ta tb tc h' n,h'=s.heap.push {cls:= .type "tuple",data:= .seq [Value.str (Txt.partition z y).1 ta,.str (Txt.partition z y).2.1 tb,.str (Txt.partition z y).2.2 tc].toArray} ->EP X pins σ Q (.ref s.heap.objs.size) {s with heap:=h',toks:=n}:=by
   intro ta tb tc h' n e
   subst e
   exact⟨.ref s.heap.objs.size,upd H s.heap.objs.size (.tup [.str (Txt.partition z y).1,.str (Txt.partition z y).2.1,.str (Txt.partition z y).2.2]),I.laid (fun b o e=>Heap.get?_push_of_some _ e) (Nat.le_refl _) ⟨B8 (by show 3<=1000;decide),[.str _ ta,.str _ tb,.str _ tc],.cons ⟨_,rfl⟩ (.cons ⟨_,rfl⟩ (.cons ⟨_,rfl⟩ .nil)),⟨_,Heap.get?_push_size s.heap rfl,rfl,0,rfl⟩⟩,rfl,q _ (I.hok.fresh (Nat.le_refl _))⟩
 revert fin
 unfold Txt.partition
 cases Builtin.Str.occurrences z y 0 z.length 1 with
 |nil=>intro h';exact h' _ _ _ _ _ rfl
 |cons i r=>intro h';exact h' _ _ _ _ _ rfl
noncomputable def J1k (tb:EK ->TS):TS:=fun D σ H=>tb (fun _ _ _ _=>False) D σ H
theorem G2t{ty:Option Expr}{nm:Option Str}{suite body:List Stmt}{hpos pos:Pos}{tb:EK ->TS}(hb:∀pins Ew EHb,G7 (X.hold pins Ew) EHb ->PSs (X.hold pins Ew) body (tb EHb)):
   PS X (.Try body [.ExceptHandler ty nm suite hpos] [] [] pos) (J1k tb):=by
 intro pins s σ H D I h
 refine wpAny_Try_except ?_
 refine wpAny_mono (hb pins _ (fun _ _ _ _=>False) ?cat [] s σ H D I.hold h) (fun f s1 hf1=>?_) (fun e s1 he=>he)
 case cat=>
   intro pins' σ' H' s' a t C dd I' F' hE
   exact hE.elim
 cases f with
 |next=>exact wpAny_execs_nil (SP.unhold hf1)
 |brk=>exact SP.unhold hf1
 |cont=>exact SP.unhold hf1
 |ret u=>exact SP.unhold hf1
end
noncomputable def S (l:List Nat):Str:=⟨l.toArray⟩
theorem A2c(l:List Nat):(S l).cps.toList=l:=rfl
theorem U9(l:List Nat):(S l).length=l.length:=by
 show l.toArray.size=l.length
 simp
theorem B1v(z:Str):S z.cps.toList=z:=by
 unfold S
 rw[Array.toArray_toList]
theorem G3p{l m:List Nat}(h:S l=S m):l=m:=by
 have:=congrArg (fun z:Str=>z.cps.toList) h
 exact this
theorem A5x(l m:List Nat):S l++S m=S (l++m):=by
 rw[<-B1v (S l++S m),Str.cps_append,Array.toList_append]
 rfl
theorem D0h(l:List Nat)(i j:Nat):Builtin.Str.strSub (S l) i j=S ((l.take j).drop i):=by
 unfold Builtin.Str.strSub
 rw[<-B1v (⟨(S l).cps.extract i j⟩:Str)]
 congr 1
 show((S l).cps.extract i j).toList=_
 rw[Array.toList_extract,A2c]
 rw[List.extract_eq_take_drop,List.drop_take]
theorem B7t(l:List Nat)(c:Nat):Txt.startswith (S l) (S [c])=decide (l.head?=some c):=by
 unfold Txt.startswith Builtin.Str.subAt
 rw[U9,U9]
 cases l with
 |nil=>rfl
 | cons a t=>
   have e:(S (a::t)).cps.extract 0 (0+ [c].length)= #[a]:=by
     apply Array.toList_inj.mp
     rw[Array.toList_extract,A2c]
     rfl
   rw[e]
   show(decide (0+1<=t.length+1)&&(#[a]== #[c]))=decide (some a=some c)
   rw[decide_eq_true (by omega),Bool.true_and]
   by_cases h:a=c
   . subst h
     simp
   . rw[decide_eq_false (fun z=>h (Option.some.inj z))]
     simp[h]
theorem D9u(l:List Nat)(a n:Nat)(h:a+n<=l.length):((List.range n).map fun k=>a+k).filterMap ((S l).cps[·]?)=(l.drop a).take n:=by
 induction n with
 |zero=>simp
 | succ n ih=>
   rw[List.range_succ,List.map_append,List.filterMap_append,ih (by omega)]
   have e:(S l).cps[a+n]?=some (l[a+n]'(by omega)):=by
     show l.toArray[a+n]?=_
     simp
   rw[show(l.drop a).take (n+1)=(l.drop a).take n++ [l[a+n]'(by omega)] by
     rw[List.take_succ,List.getElem?_drop,List.getElem?_eq_getElem (by omega)]
     rfl]
   simp[e]
theorem G3j(l:List Nat)(lo hi:Option Int)(a b:Nat)(hab:a<=b)(hb:b<=l.length)(h:Builtin.Str.strSliceIndices lo hi 1 l.length=(List.range (b-a)).map fun k=>a+k):B1p (S l) lo hi=S ((l.take b).drop a):=by
 unfold B1p
 rw[U9,h]
 have len:((List.range (b-a)).map fun k=>a+k).length=b-a:=by simp
 rw[len]
 split
 . rename_i z
   have z:b-a=l.length:=by simpa using z
   have:a=0:=by omega
   have:b=l.length:=by omega
   subst_vars
   rw[List.take_length]
   rfl
 rw[D9u l a (b-a) (by omega),List.drop_take]
 rfl
noncomputable def B8u (n:Nat) (d:Int):Option Int ->Int
 |none=>d
 |some i=>max 0 (min (if i<0 then i+n else i) n)
theorem G3m(lo hi:Option Int)(n a b:Nat)(hab:a<=b)(h1:B8u n 0 lo=(a:Int))(h2:B8u n n hi=(b:Int)):Builtin.Str.strSliceIndices lo hi 1 n=(List.range (b-a)).map fun j=>a+j:=by
 have e:Builtin.Str.strSliceIndices lo hi 1 n=PySem.sliceRange (B8u n 0 lo) (B8u n n hi) 1:=by
   cases lo<;>cases hi<;>rfl
 rw[e,h1,h2]
 unfold PySem.sliceRange
 rw[if_pos (by decide)]
 have c:(if(a:Int)<b then((b:Int)-a+1-1)/1 else 0).toNat=b-a:=by
   split<;>omega
 dsimp only
 rw[c]
 apply List.map_congr_left
 intro k _
 omega
theorem B1j(l:List Nat)(k:Nat)(h:k<=l.length):B1p (S l) (some (k:Int)) none=S (l.drop k):=by
 have:=G3j l (some (k:Int)) none k l.length h (Nat.le_refl _) (G3m _ _ _ _ _ h (by unfold B8u;dsimp only;omega) (by unfold B8u;rfl))
 rw[this,List.take_length]
theorem G7e(l:List Nat)(k:Nat)(h:k<=l.length):B1p (S l) none (some (k:Int))=S (l.take k):=by
 have:=G3j l none (some (k:Int)) 0 k (Nat.zero_le _) h (G3m _ _ _ _ _ (Nat.zero_le _) (by unfold B8u;dsimp only;omega) (by unfold B8u;dsimp only;omega))
 rw[this,List.drop_zero]
theorem A7k(p:Nat ->Bool):∀l:List Nat,l.drop (l.takeWhile p).length=l.dropWhile p
 | []=>rfl
 | a ::t=>by
   cases h:p a with
   | true=>
     rw[List.takeWhile_cons_of_pos h,List.dropWhile_cons_of_pos h]
     exact A7k p t
   | false=>
     rw[List.takeWhile_cons_of_neg (by rw[h];exact Bool.false_ne_true),List.dropWhile_cons_of_neg (by rw[h];exact Bool.false_ne_true)]
     rfl
theorem B2r(l:List Nat)(p:List Nat):Txt.lstripChars (S l) (S p)=S (l.dropWhile p.contains):=by
 have hp:(S p).cps.contains=p.contains:=by
   funext c
   show p.toArray.contains c=_
   simp
 unfold Txt.lstripChars
 rw[PyProof.Rows.stripBy_eq,hp]
 unfold stripLo stripHi
 rw[if_pos rfl,if_neg (by decide),D0h,U9,List.take_length,A2c]
 congr 1
 exact A7k _ l
theorem C5h(l:List Nat)(p:List Nat):Txt.stripChars (S l) (S p)=S ((l.dropWhile p.contains).reverse.dropWhile p.contains).reverse:=by
 have hp:(S p).cps.contains=p.contains:=by
   funext c
   show p.toArray.contains c=_
   simp
 unfold Txt.stripChars
 rw[PyProof.Rows.stripBy_eq,hp]
 unfold stripLo stripHi
 rw[if_pos rfl,if_pos rfl,D0h,U9,A2c,A7k]
 congr 1
 have tl:(l.takeWhile p.contains).length+(l.dropWhile p.contains).length=l.length:=by
   rw[<-List.length_append,List.takeWhile_append_dropWhile]
 have dl:((l.dropWhile p.contains).reverse.takeWhile p.contains).length<=(l.dropWhile p.contains).length:=by
   have h:=congrArg List.length (List.takeWhile_append_dropWhile (p:=p.contains) (l:=(l.dropWhile p.contains).reverse))
   rw[List.length_append,List.length_reverse] at h
   omega
 rw[List.drop_take,A7k, <-A7k p.contains (l.dropWhile p.contains).reverse,List.drop_reverse,List.reverse_reverse]
 congr 1
 omega
theorem D9h(l:List Nat)(n:Nat)(h1:l.head?≠some 43)(h2:l.head?≠some 45):Txt.zfill (S l) (n:Int)=S (List.replicate (n-l.length) 48++l):=by
 unfold Txt.zfill
 rw[U9]
 split
 . rw[show n-l.length=0 by omega]
   rfl
 have e:zfilled (S l) ((n:Int).toNat-l.length)=Builtin.Str.padded (S l) ((n:Int).toNat-l.length) 0 48:=by
   unfold zfilled
   have e0:(S l).cps[0]?=l.head?:=by
     show l.toArray[0]?=_
     cases l<;>rfl
   rw[e0]
   split
   . exact absurd (by assumption) h1
   . exact absurd (by assumption) h2
   . rfl
 rw[e]
 unfold Builtin.Str.padded S
 simp
noncomputable def dig (n:Nat):List Nat:=(Nat.toDigits 10 n).map Char.toNat
theorem D3w(n:Nat):Str.ofString (toString (n:Int))=S (dig n):=by
 rw[<-B1v (Str.ofString (toString (n:Int)))]
 congr 1
 exact KIN.signs_num n
end L2
namespace L2
open PySem PySem.Spec PyProof.Rows PySem.W PySem.NumText
theorem A5c{n:Nat}(h:n<10):dig n=[48+n]:=by
 unfold dig
 rw[Nat.toDigits_of_lt_base h]
 show [(Nat.digitChar n).toNat]=_
 have:∀d:Nat,d<10 ->(Nat.digitChar d).toNat=48+d:=by decide
 rw[this n h]
theorem B2k{n:Nat}(h:10<=n):dig n=dig (n/10)++ [48+n % 10]:=by
 have hm:n % 10<10:=Nat.mod_lt n (by decide)
 have t:Nat.toDigits 10 (n/10)++Nat.toDigits 10 (n % 10)=Nat.toDigits 10 (10*(n/10)+n % 10):=Nat.toDigits_append_toDigits (by decide) (by omega) hm
 rw[Nat.div_add_mod] at t
 have e:dig n=dig (n/10)++dig (n % 10):=by
   unfold dig
   rw[<-t,List.map_append]
 rw[e,A5c hm]
theorem G0d(n:Nat):AllDigits (dig n):=by
 induction n using Nat.strongRecOn with
 | _ n ih=>
   by_cases h:n<10
   . rw[A5c h]
     intro c hc
     rw[List.mem_singleton.mp hc]
     omega
   . rw[B2k (by omega)]
     intro c hc
     rcases List.mem_append.mp hc with hc|hc
     . exact ih (n/10) (by omega) c hc
     . rw[List.mem_singleton.mp hc]
       omega
theorem D2u(n:Nat):dig n≠ []:=by
 by_cases h:n<10
 . rw[A5c h]
   exact fun z=>nomatch z
 rw[B2k (by omega)]
 simp
theorem B5s{n k:Nat}(h:n<10^k)(hk:1<=k):(dig n).length<=k:=by
 induction k generalizing n with
 |zero=>omega
 | succ k ih=>
   by_cases h10:n<10
   . rw[A5c h10]
     show 1<=k+1
     omega
   . rw[B2k (by omega),List.length_append]
     have hk0:1<=k:=by
       cases k with
       |zero=>simp at h;omega
       |succ k=>omega
     have:=ih (n:=n/10) (by rw[Nat.pow_succ] at h;omega) hk0
     show _+1<=_
     omega
theorem C8a(l:List Nat):∀a:Nat,l.foldl (fun acc c=>acc*10+(c-48)) a=a*10^l.length+digitsVal l:=by
 unfold digitsVal
 induction l with
 |nil=>intro a;simp
 | cons c t ih=>
   intro a
   rw[List.foldl_cons,ih,List.foldl_cons,ih (0*10+(c-48)),List.length_cons,Nat.pow_succ]
   rw[Nat.zero_mul,Nat.zero_add,Nat.add_mul,Nat.mul_assoc,Nat.mul_comm 10,Nat.add_assoc]
theorem B6s(l m:List Nat):digitsVal (l++m)=digitsVal l*10^m.length+digitsVal m:=by
 rw[show digitsVal (l++m)=m.foldl (fun acc c=>acc*10+(c-48)) (digitsVal l) by unfold digitsVal;rw[List.foldl_append]]
 exact C8a m _
theorem B3u(k:Nat)(l:List Nat):digitsVal (List.replicate k 48++l)=digitsVal l:=by
 rw[B6s]
 have:digitsVal (List.replicate k 48)=0:=by
   induction k with
   |zero=>rfl
   | succ k ih=>
     rw[show List.replicate (k+1) 48=[48]++List.replicate k 48 from rfl,B6s,ih]
     show(0*10+0)*_+0=0
     omega
 rw[this,Nat.zero_mul,Nat.zero_add]
theorem B9d(l:List Nat):digitsVal (l.dropWhile ([48]:List Nat).contains)=digitsVal l:=by
 induction l with
 |nil=>rfl
 | cons c t ih=>
   by_cases h:c=48
   . subst h
     rw[List.dropWhile_cons_of_pos (by decide),ih]
     exact(B3u 1 t).symm
   . rw[List.dropWhile_cons_of_neg (by simp[h])]
noncomputable def G9a:List Nat:=[48,49,50,51,52,53,54,55,56,57]
theorem B8g(c:Nat):G9a.contains c=true↔48<=c/\c<=57:=by
 unfold G9a
 simp
 omega
theorem C0d{p:Nat ->Bool}:∀{l:List Nat},l.dropWhile p=[] ->∀c∈l,p c=true
 | [],_,c,hc=>nomatch hc
 | a ::t,h,c,hc=>by
   cases hp:p a with
   | true=>
     rw[List.dropWhile_cons_of_pos hp] at h
     rcases List.mem_cons.mp hc with rfl|hc
     . exact hp
     . exact C0d h c hc
   | false=>
     rw[List.dropWhile_cons_of_neg (by rw[hp];exact Bool.false_ne_true)] at h
     cases h
theorem D2a{p:Nat ->Bool}:∀{l:List Nat},(∀c∈l,p c=true) ->l.dropWhile p=[]
 | [],_=>rfl
 | a::t,h=>by
   rw[List.dropWhile_cons_of_pos (h a (List.mem_cons_self ..))]
   exact D2a fun c hc=>h c (List.mem_cons_of_mem _ hc)
theorem C3x{p:Nat ->Bool}:∀{l:List Nat} {a:Nat} {t:List Nat},l.dropWhile p=a::t ->p a=false
 | [],_,_,h=>nomatch h
 | b ::u,a,t,h=>by
   cases hp:p b with
   | true=>
     rw[List.dropWhile_cons_of_pos hp] at h
     exact C3x h
   | false=>
     rw[List.dropWhile_cons_of_neg (by rw[hp];exact Bool.false_ne_true)] at h
     injection h with h1 h2
     rw[<-h1]
     exact hp
theorem C1k{l p:List Nat}:Txt.stripChars (S l) (S p)=S []↔∀c∈l,p.contains c=true:=by
 rw[C5h]
 constructor
 . intro h
   have h:=G3p h
   rw[List.reverse_eq_nil_iff] at h
   have h2:=C0d h
   cases hm:l.dropWhile p.contains with
   |nil=>exact C0d hm
   | cons a t=>
     have:=C3x hm
     rw[h2 a (by rw[hm];simp)] at this
     cases this
 intro h
 rw[D2a h]
 rfl
end L2
namespace L2
open PySem PySem.Spec PyProof.Rows PySem.W
section
variable{X:Cx}
end
section
variable{X:Cx}{j k:Nat}{f C:Addr}{fd:FuncData}{ps:List Str}{sp:Sp}{dvs:List V}{ds:List Value}{EH:EK}{x m:Str}{p pos apos:Pos}{e o:Expr}{es:List Expr}{ta:TE}{t:TA}{st:Stmt}
end
section
variable{P:Program}{w:World}{K:PySem.W.Frag}{mg:Str ->Option Value}{base:Heap}
end
section
variable{prog:Program}{w:World}{A:Around}{E:Value ->Shared ->Prop}{s:Shared}{env:Env}
variable{nm q:Str}{C N:Addr}{bs bm bmB:List Value}{hdct:Bool}{sn:List Str}{sub:List Value}{ab:Bool}{col:Option Bool}{dd:Option Addr}{k0 k1 k2 k3 k5:Option Value}{newId:String}
end
section
variable{X:Cx}{x y:Str}{np hpos pos p cpos rpos cp:Pos}{R C:Addr}{body:List Stmt}{e:Expr}{es:List Expr}{tb:EK ->TS}{t:TA}{bmB:List Value}{B newId initId:String}{EH:EK}
end
section
variable{X:Cx}{x n:Str}{np hpos pos:Pos}{R:Addr}{i:Nat}{body suite:List Stmt}{b₀:Stmt}{tb:EK ->TS}{ts:Addr ->TS}
end
noncomputable def PER (X:Cx) (e:Expr) (te:XK ->TE):Prop:=
 ∀(pins:List (Addr×Obj)) (s:Shared) (σ:St) (H:Hp) (Q:VK) (E:XK),Inv X pins σ H s ->te E σ H Q ->wpAny (model X.prog X.w) X.A (eval e X.env) (EP X pins σ Q) (fun ev s'=>∃s1 H1,Inv X pins σ H1 s1/\CX1 X.prog X.w X.stack H1 s1 E ev s') s
noncomputable def G8u (sp:Sp) (t:TA) (E:XK):TE:=fun σ H Q=>t σ H fun vs H1=>sp (vs++ []) H1 Q E
theorem D1j{X:Cx}{j k:Nat}{f:Addr}{fd:FuncData}{ps:List Str}{sp:Sp}{x:Str}{p pos:Pos}{e:Expr}{es:List Expr}{t:TA}{st:Stmt}(hxe:∀ev s,¬X.xe ev s)(D:Def X.K X.mg x ps st f fd)(F:A9 X.prog X.w X.K X.mg X.base (CX1 X.prog X.w) j f fd ps sp)(hr:Y9 k X.A)(ha:PA X (e::es) t)(hj:j<=k:=by decide)(hg:Gl X x:=by rfl)(hdb:(x==("__debug__":Str))=false:=by decide)
   (he:starEach (e::es) X.env=(false,eval e X.env)::starEach es X.env:=by rfl) (hpl:(backTo pos (starEach es X.env)).any (·.1)=false:=by rfl):PER X (.Call (.Name x p) (e::es) [] pos) (G8u sp t):=by
 intro pins s σ H Q E I h
 refine wpAny_Call_Name_kw (Z8 I hg D.g ?_ hdb)
 refine PySem.W.callWith_K (h₀:=X.base) I.ok.mod.kin D.F.kp (wpAny_mono (ha pos pins s σ H _ I h) (fun us s1 ⟨vs,H1,I1,r,q⟩=>⟨I1.kIn,?_⟩) fun _ _ z=>absurd z (hxe _ _)) he hpl
 have r2:J0 (vs++ []) (us++ []):=r.append .nil
 have hl:(us++ []).length=ps.length:=by rw[<-r2.length];exact F.len _ _ _ _ q
 refine wpAny_call (codeAny_mono ((F.mono hj).run X.A X.stack s1 H1 ⟨us,[]⟩ (us++ []) (vs++ []) Q _ hr I1.env0 (D.b s1 us I1.kIn hl) r2 q) fun r s' hq=>?_)
 cases r with
 |error ev=>exact⟨s1,H1,I1,hq⟩
 | ok fl=>
   cases fl with
   |ret u=>exact I1.after hq
   |next=>exact False.elim hq
   |brk=>exact False.elim hq
   |cont=>exact False.elim hq
noncomputable def C5g (n:Nat) (js:List Nat) (wi:TI) (g:TG) (te:XK ->TE) (EH:EK):TE:=fun σ H Q=>wi σ H fun J H1=>∀D,H1 D=none ->
 ∃ (m:Nat) (W:Nat ->List V ->Hp ->Prop),W 0 [] (upd H1 D (.lst []))/\∀i ys H2,W i ys H2 ->i<=m/\H2 D=some (.lst ys)/\((J.stop i H2/\Q (.ref D) H2)\/(i<m/\J.go i H2/\∀x H3,J.yld i H2 x H3 ->
   g x (List.replicate n none++A3f js σ) H3 fun σ4 H4=>te (fun C d H'=>EH C d σ H') σ4 H4 fun y H6=>H6 D=some (.lst ys)/\ys.length<sizeLine/\W (i+1) (ys++ [y]) (upd H6 D (.lst (ys++ [y])))))
section
variable{X:Cx}{pins:List (Addr×Obj)}{σ:St}{H:Hp}{s:Shared}{a:Addr}{t:XT}{C:Value}{dd:Option Addr}
theorem C8c{M:Model}{E:Value ->Shared ->Prop}{Q:Unit ->Shared ->Prop}{tb:Value}(B:C8n X)(I:Inv X pins σ H s)(na:Nw X pins H a)(e:s.heap.get? a=some (A0d C t dd tb))(ht:G6e s.heap a tb)(nT:∀T,tb= .ref T ->Nw X pins H T)
   (k:∀s' T,Inv X pins σ H s' ->A2z X pins H s' a C t dd (rawInt X.env.locals) ->s'.heap.get? a=some (A0d C t dd (.ref T)) ->(s.heap.get? T=none\/tb= .ref T) ->
     (∀b o,b≠X.env.locals ->b ∉ X.fs ->b≠a ->tb≠ .ref b ->s.heap.get? b=some o ->s'.heap.get? b=some o) ->Q () s'):wpAny M X.A (noteFrame (.ref a) X.env) Q E s:=by
 have hfr:=I.ok.frames
 rw[B.st] at hfr
 have hl:=I.stack
 rw[B.st] at hl
 by_cases hag:∃T oT ts,tb= .ref T/\s.heap.get? T=some oT/\oT.data= .fields ts/\ts[3]?=some (rawInt X.env.locals)
 . obtain⟨T,oT,ts,rfl,eT,dT,h3⟩:=hag
   rcases ht with z|⟨T',_,_,_,z,ne,_⟩
   . cases z
   . cases z
     exact C4u B.fr e eT dT h3 (k s T I ⟨na,T,oT,ts,e,ne,nT T rfl,eT,dT,h3⟩ e (.inr rfl) fun _ _ _ _ _ _ q=>q)
 refine D2s hfr hl B.fr e ht (fun T oT ts z1 z2 z3 z4=>hag ⟨T,oT,ts,z1,z2,z3,z4⟩) fun h' T k1 k2 k3 k4 k5 k6=>?_
 have ch:∀b,b ∉ a::A9n tb ->b≠a/\tb≠ .ref b:=by
   intro b hb
   refine⟨fun z=>hb (by rw[z];exact List.mem_cons_self),fun z=>hb ?_⟩
   rw[z]
   exact List.mem_cons_of_mem _ (List.mem_singleton.mpr rfl)
 have nf:∀b,b≠X.env.locals ->b ∉ X.fs ->b ∉ (X.env::X.outer).filterMap (·.frame):=fun b h1 h2 z=>by
   rw[List.filterMap_cons,B.fr] at z
   rcases List.mem_cons.mp z with z|z
   . exact h1 z
   . exact h2 z
 have I':Inv X pins σ H {s with heap:=h'}:=by
   refine I.stepN (ch:=a::A9n tb) (fun b hb=>?_) (fun b o h1 h2 h3 q=>k1 b o (nf b h1 h2) (ch b h3).1 (ch b h3).2 q) (fun b o h3 q=>k2 b o (ch b h3).1 (ch b h3).2 q)
   rcases List.mem_cons.mp hb with rfl|hb
   . exact na
   . cases tb<;>simp[A9n] at hb
     subst hb
     exact nT _ rfl
 obtain⟨oT,ts,q1,q2,q3⟩:=k6
 exact k _ T I' ⟨na,T,oT,ts,k5,k4,I.nw B.ex k3 (I.hok.new k3),q1,q2,q3⟩ k5 (.inl k3) fun b o h1 h2 h3 h4 q=>k1 b o (nf b h1 h2) h3 h4 q
theorem G4j{EH:EK}{fl:Value}{what:String}{cenv:Env}(hx:G7 X EH)(I:Inv X pins σ H s)(F:A2z X pins H s a C t dd fl)(et:t=({t:=t.t}:XT))(hE:EH C dd σ H):wpAny (model X.prog X.w) X.A (passOn what (.ref a) cenv:Sem Value) (fun _ _=>False) X.xe s:=by
 obtain⟨na,T,oT,ts,e,ne,nT,eT,dT,h3⟩:=id F
 unfold PySem.passOn
 refine wpAny_bind (wpAny_field e rfl (x:= .ref T) rfl ?_)
 rw[if_neg (show¬((Value.ref T==Value.none)=true) by simp)]
 refine wpAny_bind (C5p (fr:=cenv.frame) I F fun s' I' F'=>wpAny_throw ?_)
 rw[et] at F'
 exact hx pins σ H s' a t.t C dd I' F'.flt hE
end
theorem B8v{elt target iter:Expr}{scope:Scope}{pos:Pos}{N F:List Str}{js:List Nat}{wi:TI}{g:TG}{te:XK ->TE}{EH:EK}(S:G0 N F js scope X.N X.env)(hd:A2a X)(hc0:X.calm=true)(Bd:C8n X)(hi:PI X target iter wi)(hex:X.ex=[])
   (hg:∀C s₀ H₀ ex pn,A2a (X.compF scope N F C s₀ H₀ ex pn) ->PG (X.compF scope N F C s₀ H₀ ex pn) target g)
   (he:∀C s₀ H₀ ex pn,A2a (X.compF scope N F C s₀ H₀ ex pn) ->PER (X.compF scope N F C s₀ H₀ ex pn) elt te)
   {pins:List (Addr×Obj)} {s:Shared} {σ:St} {H:Hp} {Q:VK} {RR:Value ->Env ->Result ->Shared ->Prop} (I:Inv X pins σ H s) (h:(C5g N.length js wi g te EH) σ H Q)
   (hRR:∀(D C:Addr) (s6:Shared) (H5:Hp) (mm:Str ->Option Value),Inv X pins σ H5 s6 ->s6.heap.Ns C mm ->A2y X pins H5 C ->Q (.ref D) H5 ->RR (.ref D) (compEnvC scope (A1n F X.env) C X.env) (.ok .next) s6)
   (hRE:∀(D C a:Addr) (t:XT) (Cl:Value) (dd:Option Addr) (s6:Shared) (H5:Hp) (mm:Str ->Option Value) (fl:Value),Inv X pins σ H5 s6 ->s6.heap.Ns C mm ->A2y X pins H5 C ->(∀h',Heap.SameBut C s6.heap h' ->A2z X pins H5 {s6 with heap:=h'} a Cl t dd fl) ->(t=({t:=t.t}:XT)) ->EH Cl dd σ H5 ->RR (.ref D) (compEnvC scope (A1n F X.env) C X.env) (.error (.ref a)) s6):
   wpAny (model X.prog X.w) X.A (eval iter X.env) (fun v s1=>wpAny (model X.prog X.w) X.A (pyIter v) (fun itv s2=>wpAny (model X.prog X.w) X.A (newList []) (fun acc s3=>wpAny (model X.prog X.w) X.A (newFunctionEnv scope X.env.globals (A1n F X.env) [] X.env.qual none .none (some X.env)) (fun cenv s4=>
     codeAny (model X.prog X.w) X.A (.compStart (.ListComp elt [⟨target,iter,[],0⟩] scope pos) 0 itv acc {cenv with scope:=relabel scope X.env}) (RR acc {cenv with scope:=relabel scope X.env}) s4) X.xe s3) X.xe s2) X.xe s1) X.xe s:=by
 refine thn (hi pins s σ H _ I h) fun v s1 h1=>thn h1 fun itv s2 h2=>?_
 obtain⟨it,fp,tn,J,H2,rfl,I2,T,st2,f2,R⟩:=h2
 have ob2:=T.obj _ _ st2
 have hf2:=I2.hok.fresh (Nat.le_refl _)
 refine wpAny_newObj_type ?_
 have I3:Inv X pins σ (upd H2 s2.heap.objs.size (.lst [])) {s2 with heap:=s2.heap.push {cls:= .type "list",dict:=none,data:= .seq ([]:List Value).toArray}}:=Inv.lnew (t':=s2.toks) I2 .nil (Nat.zero_le _)
 refine wpAny_newFunctionEnv S.cell (by intro y hy;simp at hy) (fun h4 hns hsb=>?_) S.kind
 dsimp only at hns hsb ⊢
 generalize hG:s2.heap.push {cls:= .type "list",dict:=none,data:= .seq ([]:List Value).toArray}=G at I3 hns hsb ⊢
 generalize hD:s2.heap.objs.size=D at I3 hf2
 have nD:∀b∈fp,b≠D:=fun b hb=>by
   obtain⟨o,eo,_⟩:=ob2 b hb
   rw[<-hD];exact Nat.ne_of_lt (Heap.lt_size eo)
 have eiG:∀b∈fp,∃o,G.get? b=some o:=fun b hb=>by
   obtain⟨o,eo,_⟩:=ob2 b hb
   exact⟨o,by rw[<-hG];exact Heap.get?_push_of_some _ eo⟩
 have kp:∀b o,G.get? b=some o ->h4.get? b=some o:=fun b o e=>hsb.extBut b o (Nat.ne_of_lt (Heap.lt_size e)) (Heap.get?_push_of_some _ e)
 have f3:∀b∈fp,A2y X pins (upd H2 D (.lst [])) b:=fun b hb=>⟨by rw[C9 (nD b hb)];exact(f2 b hb).1,(f2 b hb).2⟩
 have nb:∀b∈fp,X.base.get? b=none:=fun b hb=>by
   cases q:X.base.get? b with
   |none=>rfl
   | some o=>
     have:=(I.ok.bs b o q).1
     rcases(f2 b hb).2.2.2.1 with z|z
     . rw[hex] at z;simp at z
     . exact absurd (Nat.lt_of_lt_of_le (Heap.lt_size this) z) (Nat.lt_irrefl _)
 have hns':h4.Ns G.objs.size (fun _=>none):=by
   obtain⟨o,es,ep,q1,q2,q3,q4⟩:=hns
   exact⟨o,es,ep,q1,q2,q3,fun x=>by rw[q4];rfl⟩
 have I4:=A9a (tk:=s2.toks+([]:List (Str×Value)).length) S I3 f3 eiG nb hns' kp
 have hdc:A2a (X.compF scope N F G.objs.size {s2 with heap:=G} (upd H2 D (.lst [])) fp (X.pn++pins)):=by
   rcases hd with z|⟨x,o,u,vs,z,e,d,n⟩
   . exact .inl z
   . refine .inr ⟨x,o,u,vs,z,?_,d,n⟩
     have q:=I2.base.frzs x o u e
     show upd H2 D (.lst []) x=_
     rw[C9 fun w=>by rw[w,hf2] at q;cases q]
     exact q
 obtain⟨m,W,w0,turn⟩:=R D hf2
 have gg:=hg _ _ _ _ _ hdc
 have ee:=he _ _ _ _ _ hdc
 have fpc:∀{H':Hp} {σ':St} {s':Shared} {pl:List (Addr×Obj)},Inv (X.compF scope N F G.objs.size {s2 with heap:=G} (upd H2 D (.lst [])) fp (X.pn++pins)) pl σ' H' s' ->(∀b∈fp,H' b=none) ->(∀b∈fp,∀p∈pl,p.1≠b) ->∀b∈fp,A2y (X.compF scope N F G.objs.size {s2 with heap:=G} (upd H2 D (.lst [])) fp (X.pn++pins)) pl H' b:=by
   intro H' σ' s' pl J' hn hp b hb
   obtain⟨oi,ei⟩:=eiG b hb
   refine⟨hn b hb,Nat.ne_of_lt (Heap.lt_size ei),?_,.inl hb,(fun x c z=>(f2 b hb).2.2.2.2.1 x c (S.sub x c z)),fun p hpp=>?_⟩
   . intro z
     rcases List.mem_cons.mp (I.stkSub b z) with z|z
     . exact(f2 b hb).2.1 z
     . exact(f2 b hb).2.2.1 z
   . rcases List.mem_append.mp hpp with z|z
     . exact(f2 b hb).2.2.2.2.2 p z
     . exact hp b hb p z
 have loop :codeAny (model X.prog X.w) X.A (.compLoop (.ListComp elt [⟨target,iter,[],0⟩] scope pos) 0 (.ref it) (.ref D) (compEnvC scope (A1n F X.env) G.objs.size X.env))
     (RR (.ref D) (compEnvC scope (A1n F X.env) G.objs.size X.env))
     {s2 with heap:=h4,toks:=s2.toks+([]:List (Str×Value)).length}:=by
   refine B7x (fun k s'=>∃i ys H',k=m+1-i/\Inv (X.compF scope N F G.objs.size {s2 with heap:=G} (upd H2 D (.lst [])) fp (X.pn++pins)) [] (List.replicate N.length none++A3f js σ) H' s'/\tn i s'.heap/\(∀b∈fp,H' b=none)/\W i ys H') ?_ (m+1)
     ⟨0,[],_,rfl,I4,T.keep _ _ _ st2 fun b hb o e=>kp b o (by rw[<-hG];exact Heap.get?_push_of_some _ e),fun b hb=>(f3 b hb).1,w0⟩
   rintro k s5 ⟨i,ys,H5,rfl,I5,st5,n5,w5⟩
   obtain⟨hi5,hD5,w5⟩:=turn i ys H5 w5
   rcases w5 with⟨stop,q⟩|⟨lt5,go,step⟩
   . refine wpAny_mono (T.done (X.compF scope N F G.objs.size {s2 with heap:=G} (upd H2 D (.lst [])) fp (X.pn++pins)) rfl rfl rfl hc0 i [] s5 _ H5 (fun _ _=>False) I5 (fpc I5 n5 (by simp)) st5 stop) (fun r s6 z=>?_) (fun _ _ z=>z.elim)
     obtain⟨rfl,I6⟩:=z
     obtain⟨mm,hn6,_⟩:=I6.loc
     have B6:=I6.base
     have J6:Inv X pins σ H5 s6:=by
       refine I3.call' (ch:=fp) I6.os ⟨B6.keep,B6.slot,B6.free,B6.there,B6.tups,B6.frzs,B6.tbls⟩ I6.hok I6.bare (fun b hb=>⟨(f2 b hb).2.2.2.1,(f2 b hb).2.1,(f2 b hb).2.2.2.2.1,(f2 b hb).2.2.2.2.2⟩)
     have szG:X.s₀.heap.objs.size<=G.objs.size:=I3.sz
     refine hRR D G.objs.size s6 H5 mm J6 hn6 ⟨I6.free,?_,?_,.inr szG,?_,?_⟩ q
     . exact Nat.ne_of_gt I3.lt
     . intro z
       obtain⟨_,o,ho,_⟩:=I3.funs.mem z
       exact Nat.lt_irrefl _ (Heap.lt_size ho)
     . rintro x c z rfl
       obtain⟨v',o,ho,_⟩:=I3.cell x _ z
       exact Nat.lt_irrefl _ (Heap.lt_size ho)
     . rintro p hp z
       have zz:=(I3.pin p hp).1
       rw[z] at zz
       exact Nat.lt_irrefl _ (Heap.lt_size zz)
   . refine wpAny_mono (T.item (X.compF scope N F G.objs.size {s2 with heap:=G} (upd H2 D (.lst [])) fp (X.pn++pins)) rfl rfl rfl hc0 i [] s5 _ H5 (fun _ _=>False) I5 (fpc I5 n5 (by simp)) st5 go) (fun r s6 z=>?_) (fun _ _ z=>z.elim)
     obtain⟨u,rfl,z⟩:=z
     refine wpAny_mono z (fun _ s7 z=>?_) (fun _ _ z=>z.elim)
     obtain⟨x,H7,I7,rx,yl,st7,fr7⟩:=z
     have ob7:=T.obj _ _ st7
     have I7':Inv (X.compF scope N F G.objs.size {s2 with heap:=G} (upd H2 D (.lst [])) fp (X.pn++pins)) (Y5 fp s7.heap) (List.replicate N.length none++A3f js σ) H7 s7:=I7.pinned (fpc I7 fr7 (by simp)) ob7
     have back:∀{i':Nat} {ys':List V} {H':Hp} {σ':St} {s':Shared},i'=i+1 ->Inv (X.compF scope N F G.objs.size {s2 with heap:=G} (upd H2 D (.lst [])) fp (X.pn++pins)) (Y5 fp s7.heap) σ' H' s' ->W i' ys' H' ->
         ∃k',k'<m+1-i/\∃i ys H',k'=m+1-i/\Inv (X.compF scope N F G.objs.size {s2 with heap:=G} (upd H2 D (.lst [])) fp (X.pn++pins)) [] (List.replicate N.length none++A3f js σ) H' s'/\tn i s'.heap/\(∀b∈fp,H' b=none)/\W i ys H':=by
       rintro i' ys' H' σ' s' rfl J' w'
       refine⟨m+1-(i+1),by omega,i+1,ys',H',rfl,A6g S I3 f3 J',T.keep _ _ _ st7 fun b hb o z=>(J'.pin (b,o) (List.mem_append_right _ (A0b hb z))).1,fun b hb=>?_,w'⟩
       obtain⟨o,eo,_⟩:=ob7 b hb
       exact(J'.pin (b,o) (List.mem_append_right _ (A0b hb eo))).2.1
     refine wpAny_mono (gg (Y5 fp s7.heap) s7 _ H7 x u _ I7' rx (step x H7 yl)) (fun _ s8 z=>?_) (fun _ _ z=>z.elim)
     obtain⟨σ8,H8,I8,q8⟩:=z
     refine wpAny_mono (ee (Y5 fp s7.heap) s8 σ8 H8 _ _ I8 q8) (fun y s10 z=>?_) (fun ev s10 z=>?er)
     case er=>
       obtain⟨s1',H1',I1',cx⟩:=z
       obtain⟨a,t,Cl,dd,H',rfl,os',bare',un',hok',hE,⟨a1,a2⟩,Tb,oT,ts,ez,nea,⟨t1,t2⟩,eT,dT,h3⟩:=cx
       have I':=I1'.call' (ch:=[]) os' un' hok' bare' (fun b q=>absurd q (by simp))
       have back1:∀{pl:List (Addr×Obj)} {σx:St} {Hx:Hp} {sx:Shared},Inv (X.compF scope N F G.objs.size {s2 with heap:=G} (upd H2 D (.lst [])) fp (X.pn++pins)) pl σx Hx sx ->Inv X pins σ Hx sx:=fun{pl σx Hx sx} Ix=>by
         have Bx:=Ix.base
         exact I3.call' (ch:=fp) Ix.os ⟨Bx.keep,Bx.slot,Bx.free,Bx.there,Bx.tups,Bx.frzs,Bx.tbls⟩ Ix.hok Ix.bare (fun b hb=>⟨(f2 b hb).2.2.2.1,(f2 b hb).2.1,(f2 b hb).2.2.2.2.1,(f2 b hb).2.2.2.2.2⟩)
       have J1:=back1 I1'
       have J':=back1 I'
       obtain⟨mm1,hn1,_⟩:=I1'.loc
       obtain⟨mm,hn6,_⟩:=I'.loc
       have szG:X.s₀.heap.objs.size<=G.objs.size:=I3.sz
       have fC:A2y X pins H' G.objs.size:=by
         refine⟨I'.free,?_,?_,.inr szG,?_,?_⟩
         . exact Nat.ne_of_gt I3.lt
         . intro z
           obtain⟨_,o,ho,_⟩:=I3.funs.mem z
           exact Nat.lt_irrefl _ (Heap.lt_size ho)
         . rintro x c z rfl
           obtain⟨v',o,ho,_⟩:=I3.cell x _ z
           exact Nat.lt_irrefl _ (Heap.lt_size ho)
         . rintro p hp z
           have zz:=(I3.pin p hp).1
           rw[z] at zz
           exact Nat.lt_irrefl _ (Heap.lt_size zz)
       have neC:∀b,s1'.heap.get? b=none ->b≠G.objs.size:=fun b hb z=>by
         obtain⟨o,_,_,q,_⟩:=hn1
         rw[z] at hb
         have q:s1'.heap.get? G.objs.size=some o:=q
         rw[hb] at q
         cases q
       have na:=J1.nw (H':=H') hex a1 a2
       have nT:=J1.nw (H':=H') hex t1 t2
       show wpAny (model X.prog X.w) X.A (noteFrame (.ref a) X.env) _ _ s10
       refine C8c Bd J' na ez (.inr ⟨Tb,oT,ts,_,rfl,nea,eT,dT,h3⟩) (fun T' z=>by cases z;exact nT) fun s11 T3 J11 F11 e11 nw3 k1=>?_
       obtain⟨oC,es,ep,hoC,rC⟩:=id hn6
       have hoC:s10.heap.get? G.objs.size=some oC:=hoC
       have kC:=k1 G.objs.size oC fC.2.1 fC.2.2.1 (Ne.symm (neC a a1)) (fun z=>neC Tb t1 (Value.ref.inj z)) hoC
       obtain⟨q1,T2,oT2,ts2,q2,q3,q4,q5,q6,q7⟩:=F11
       refine hRE D G.objs.size a _ Cl dd s11 H' mm _ J11 ⟨oC,es,ep,kC,rC⟩ fC (fun h' sb=>⟨q1,T2,oT2,ts2,(sb.2 a (neC a a1)).trans q2,q3,q4,(sb.2 T2 ?_).trans q5,q6,q7⟩) rfl hE
       have e23:T2=T3:=by
         rw[q2] at e11
         have z:=congrArg (fun o:Option Obj=>o.map fun o=>match o.data with| .fields vs=>vs[1]?|_=>none) e11
         simpa using z
       rw[e23]
       rcases nw3 with z|z
       . intro q
         rw[q,hoC] at z
         cases z
       . rw[<-Value.ref.inj z]
         exact neC Tb t1
     obtain⟨yv,H10,I10,ry,hD10,hz10,w10⟩:=z
     refine wpAny_mono (A2x (X:=X.compF scope N F G.objs.size {s2 with heap:=G} (upd H2 D (.lst [])) fp (X.pn++pins)) (Y5 fp s7.heap) s10 σ8 H10 (.ref D) [yv] (.ref D) [y] (fun _ H11=>W (i+1) (ys++ [yv]) H11) I10 rfl (.cons ry .nil) ⟨D,ys,yv,rfl,rfl,hD10,hz10,w10⟩) (fun _ s11 z=>?_) (fun _ _ z=>z.elim)
     obtain⟨_,H11,I11,_,w11⟩:=z
     exact back rfl I11 w11
 exact codeAny_compStart_list loop (T.self _ 0 _ _ _ (T.keep _ _ _ st2 fun b hb o e=>kp b o (by rw[<-hG];exact Heap.get?_push_of_some _ e)) loop)
theorem C7n{i:Nat}{y:Str}{py spos:Pos}{elt target iter:Expr}{pos:Pos}{wi:TI}{g:TG}{te:XK ->TE}{EH:EK}(S:G0 N F js scope X.N X.env)(hd:A2a X)(hc0:X.calm=true)(Bd:C8n X)(hx:G7 X EH)(hi:PI X target iter wi)(hex:X.ex=[])
   (hg:∀C s₀ H₀ ex pn,A2a (X.compF scope N F C s₀ H₀ ex pn) ->PG (X.compF scope N F C s₀ H₀ ex pn) target g)
   (he:∀C s₀ H₀ ex pn,A2a (X.compF scope N F C s₀ H₀ ex pn) ->PER (X.compF scope N F C s₀ H₀ ex pn) elt te) (hN:X.N.Nodup) (hi':X.N[i]?=some y) (hy:Loc X.env.scope y)
   (hf:X.fn y=true\/X.env.scope.names.lookup y=some .local:=by first|exact .inl rfl|exact .inr rfl|assumption)
   (hsw:swapsWith (.ListComp elt [⟨target,iter,[],0⟩] scope pos) (some (.Name y py)) spos.line X.env=pure true:=by rfl)
   (hs:∀x,foldedSetIterable iter X.env x=pure x:=by intro _;rfl):PS X (.Assign [.Name y py] (.ListComp elt [⟨target,iter,[],0⟩] scope pos) spos) (D0j (C5g N.length js wi g te EH) (B1q i)):=by
 intro pins s σ H D I h
 rw[exec_Assign_Name_used _ _ _ _ hsw]
 refine wpAny_bind (wpAny_standAt (wpAny_bind ?_))
 show wpAny _ X.A (do let _<-comprehension (.ListComp elt [⟨target,iter,[],0⟩] scope pos) scope X.env _ (newList []) false (eval iter X.env) (some (assign (.Name y py) X.env))) _ _ s
 refine wpAny_bind (wpAny_mono (wpAny_comprehension_free (Q:=fun _ s'=>SP X pins D .next s') rfl hs S.clos S.kind S.loc (B8v S hd hc0 Bd hi hex hg he I h (RR:=fun acc ce r s'=>compPost (model X.prog X.w) X.A X.xe (some (assign (.Name y py) X.env)) (fun _ s'=>SP X pins D .next s') acc ce.locals r s') ?_ ?er))
   (fun _ s' hq=>wpAny_pure (wpAny_pure hq)) fun _ _ e=>e)
 case er=>exact fun D C a t Cl dd s6 H5 mm fl I6 n6 f6 F6 et hE=>⟨mm,n6,fun h' sb cenv hce=>G4j hx (C3w I6 f6 sb) (F6 h' sb) et hE⟩
 intro D' C s6 H5 mm I6 n6 f6 q
 refine wpAny_assign_Name (B4c (v:= .ref D') I6 hN hi' hy rfl (fun s7 I7 st=>?_) hf)
 obtain⟨a,sb,ha⟩:=st
 have na:C≠a:=by
   rcases ha with rfl|ha
   . exact f6.2.1
   . exact(f6.2.2.2.2.1 y a ha).symm
 exact⟨mm,n6.sameBut sb na,fun h' sb'=>⟨_,_,C3w I7 f6 sb',q⟩⟩
noncomputable def PH (X:Cx) (hs:List ExceptHandler) (th:Value ->Option Addr ->TS):Prop:=
 ∀(pins:List (Addr×Obj)) (σ:St) (H:Hp) (s:Shared) (a t:Addr) (C:Value) (dd:Option Addr) (D:A9r),Inv X pins σ H s ->A2z X pins H s a C t dd .none ->th C dd D σ H ->wpAny (model X.prog X.w) X.A (handleBy (.ref a) X.env hs) (SP X pins D) X.xe s
noncomputable def J1y:Value ->Option Addr ->TS:=fun _ _ _ _ _=>False
noncomputable def J7e (K:Frag) (R:Addr) (ts:Addr ->TS) (tr:Value ->Option Addr ->TS):Value ->Option Addr ->TS:=fun C dd D σ H=>
 (subIn K C (.ref R)=some true/\∀(a t T:Addr),H a=none ->ts a D σ (upd H a (.frz (A0d C t dd (.ref T)) (.own a))))\/(subIn K C (.ref R)=some false/\tr C dd D σ H)
noncomputable def hAs (K:Frag) (R:Addr) (i:Nat) (ts:Addr ->TS) (tr:Value ->Option Addr ->TS):Value ->Option Addr ->TS:=fun C dd D σ H=>
 (subIn K C (.ref R)=some true/\∀(a t T:Addr),H a=none ->ts a {nx:=fun σ2 H2=>D.nx (σ2.set i none) H2,rt:=D.rt,bk:=fun σ2 H2=>D.bk (σ2.set i none) H2,ct:=fun σ2 H2=>D.ct (σ2.set i none) H2} (σ.set i (some (.ref a))) (upd H a (.frz (A0d C t dd (.ref T)) (.own a))))\/(subIn K C (.ref R)=some false/\tr C dd D σ H)
noncomputable def J4n (th:Value ->Option Addr ->TS) (tb:EK ->TS):TS:=fun D σ H=>tb (fun C dd σ' H'=>th C dd D σ' H') D σ H
section
variable{X:Cx}{x n:Str}{np hpos pos:Pos}{R:Addr}{i:Nat}{body suite:List Stmt}{b₀:Stmt}{tb:EK ->TS}{ts:Addr ->TS}{rest:List ExceptHandler}{tr:Value ->Option Addr ->TS}{h₀:ExceptHandler}
theorem G2p:PH X [] J1y:=fun _ _ _ _ _ _ _ _ _ _ _ h=>h.elim
theorem C0f(hm:X.mg x=some (.ref R))(c:A6n X.K R)(hs:∀pins a,PSs (X.hnd pins a) (b₀::suite) (ts a))(hr:PH X rest tr)(hg:Gl X x:=by rfl)(hdb:(x==("__debug__":Str))=false:=by decide):
   PH X (.ExceptHandler (some (.Name x np)) none (b₀::suite) hpos::rest) (J7e X.K R ts tr):=by
 intro pins σ H s a t C dd D J F h
 obtain⟨na,T,oT,ts',e3,ne3,nT3,eT3,dT3,h33⟩:=id F
 refine wpAny_handleBy_cons (codeAny_handlers_test ?_) (by intro z;cases z)
 have K3:Inv (X.hnd pins a) [] σ H s:=J.hnd
 refine Z8 K3 hg hm ?_ hdb
 rcases h with⟨hsub,hE⟩|⟨hsub,hE⟩
 . refine A5m J.kIn e3 rfl c hsub ?_
   show codeAny _ _ _ _ _
   refine codeAny_handlers_suite ?_
   refine A6z J F fun s4 J4 F4=>?_
   obtain⟨na4,T4,oT4,ts4,e4,_⟩:=id F4
   have J5:=J4.track na4 e4
   refine wpAny_mono (hs pins a [] s4 _ _ _ J5.hnd (hE a t T4 na4.un)) (fun f s6 hf6=>?_) (fun _ _ z=>z.elim)
   cases f with
   |next=>obtain⟨σ6,H6,K6,q⟩:=hf6;exact⟨_,_,K6.unhnd J5.ok,q⟩
   |brk=>obtain⟨σ6,H6,K6,q⟩:=hf6;exact⟨_,_,K6.unhnd J5.ok,q⟩
   |cont=>obtain⟨σ6,H6,K6,q⟩:=hf6;exact⟨_,_,K6.unhnd J5.ok,q⟩
   |ret u=>obtain⟨v,σ6,H6,K6,r,q⟩:=hf6;exact⟨v,_,_,K6.unhnd J5.ok,r,q⟩
 refine A5m J.kIn e3 rfl c hsub ?_
 exact hr pins σ H s a t C dd D J F hE
theorem J3h(hm:X.mg x=some (.ref R))(c:A6n X.K R)(hN:X.N.Nodup)(hi:X.N[i]?=some n)(hk:X.env.scope.names.lookup n=some .local)(hs:∀pins a,PSs (X.hnd pins a) (b₀::suite) (ts a))(hr:PH X rest tr)(hg:Gl X x:=by rfl)(hdb:(x==("__debug__":Str))=false:=by decide)
   (hf:X.fn n=true\/X.env.scope.names.lookup n=some .local:=by first|exact .inl rfl|exact .inr rfl|assumption):
   PH X (.ExceptHandler (some (.Name x np)) (some n) (b₀::suite) hpos::rest) (hAs X.K R i ts tr):=by
 intro pins σ H s a t C dd D J F h
 obtain⟨na,T,oT,ts',e3,ne3,nT3,eT3,dT3,h33⟩:=id F
 refine wpAny_handleBy_cons (codeAny_handlers_test ?_) (by intro z;cases z)
 have K3:Inv (X.hnd pins a) [] σ H s:=J.hnd
 refine Z8 K3 hg hm ?_ hdb
 rcases h with⟨hsub,hE⟩|⟨hsub,hE⟩
 . refine A5m J.kIn e3 rfl c hsub ?_
   show codeAny _ _ _ _ _
   refine codeAny_handlers_suite_as ?_
   refine A6z J F fun s4 J4 F4=>?_
   obtain⟨na4,T4,oT4,ts4,e4,_⟩:=id F4
   have J5:=J4.track na4 e4
   refine A2r (v:= .ref a) J5 hN hi (.inl hk) rfl (fun s5 J6=>?_) hf
   refine wpAny_mono (hs pins a [] s5 _ _ _ J6.hnd (hE a t T4 na4.un)) (fun f s6 hf6=>?_) (fun _ _ z=>z.elim)
   have fin:∀{σ6:St} {H6:Hp} {Q6:Unit ->Shared ->Prop},Inv (X.hnd pins a) [] σ6 H6 s6 ->(∀s7,Inv X pins (σ6.set i none) H6 s7 ->Q6 () s7) ->
       wpAny (model X.prog X.w) X.A (do bindName X.env n .none;unbindBehindTheSuite X.env n hpos) Q6 X.xe s6:=by
     intro σ6 H6 Q6 K6 k6
     have L6:=K6.unhnd J6.ok
     refine wpAny_bind (wpAny_bindName (A2r (v:= .non) L6 hN hi (.inl hk) rfl (fun s7 J7=>?_) hf))
     unfold unbindBehindTheSuite
     have hlen:i<σ6.length:=by rw[L6.len];exact(List.getElem?_eq_some_iff.mp hi).1
     refine wpAny_onRaise (C7k J7 hN hi hk (List.getElem?_set_self hlen) fun s8 J8=>k6 s8 ?_)
     rw[List.set_set] at J8
     exact J8
   cases f with
   |next=>obtain⟨σ6,H6,K6,q⟩:=hf6;exact fin K6 fun s7 J7=>⟨_,_,J7,q⟩
   |brk=>obtain⟨σ6,H6,K6,q⟩:=hf6;exact fin K6 fun s7 J7=>⟨_,_,J7,q⟩
   |cont=>obtain⟨σ6,H6,K6,q⟩:=hf6;exact fin K6 fun s7 J7=>⟨_,_,J7,q⟩
   |ret u=>obtain⟨v,σ6,H6,K6,r,q⟩:=hf6;exact fin K6 fun s7 J7=>⟨v,_,_,J7,r,q⟩
 refine A5m J.kIn e3 rfl c hsub ?_
 exact hr pins σ H s a t C dd D J F hE
theorem G1g(B:C8n X)(hb:∀pins Ew EHb,G7 (X.hold pins Ew) EHb ->PSs (X.hold pins Ew) body (tb EHb))(hh:PH X (h₀::rest) tr):PS X (.Try body (h₀::rest) [] [] pos) (J4n tr tb):=by
 intro pins s σ H D I h
 refine wpAny_Try_except ?_
 refine wpAny_mono (hb pins _ _ ?cat [] s σ H D I.hold h) (fun f s1 hf1=>?_) (fun e s1 he=>he)
 case cat=>
   intro pins' σ' H' s' a t C dd I' F' hE
   show wpAny (model X.prog X.w) X.A (noteFrame (.ref a) X.env) _ X.xe s'
   have J:=I'.unhold
   have F:=F'.unhold
   exact B9k B J F fun s2 J2 F2=>A6z J2 F2 fun s3 J3 F3=>hh pins σ' H' s3 a t C dd D J3 F3 hE
 cases f with
 |next=>exact wpAny_execs_nil (SP.unhold hf1)
 |brk=>exact SP.unhold hf1
 |cont=>exact SP.unhold hf1
 |ret u=>exact SP.unhold hf1
end
section
variable{X:Cx}
noncomputable def G5b:V ->List V ->Hp ->VK ->Prop:=fun x vs H Q=>∃z y,x= .str z/\vs=[.str y]/\(y.length==0)=false/\z.length+2<=sizeLine/\∀p,H p=none ->Q (.ref p) (upd H p (.lst ((Txt.split z y).map V.str)))
theorem D3d:MtR X "str.split" G5b:=by
 intro pins s σ H x vs v us Q I rx rv h
 obtain⟨z,y,rfl,rfl,hy,hz,q⟩:=h
 obtain⟨t,rfl⟩:=(show∃t,v=Value.str z t from rx)
 obtain⟨u,rfl,ru⟩:=rv.one
 obtain⟨k,rfl⟩:=(show∃k,u=Value.str y k from ru)
 have sl:=split_le z y
 have fin:∀(l:List (Str×Tok)) (n:Nat),l.map (·.1)=Txt.split z y ->EP X pins σ Q (.ref s.heap.objs.size) {s with heap:=s.heap.push {cls:= .type "list",data:= .seq (strValues l).toArray},toks:=n}:=by
   intro l n el
   have r:J0 ((Txt.split z y).map V.str) (strValues l):=by
     rw[<-el]
     clear el
     induction l with
     |nil=>exact .nil
     |cons p l ih=>exact .cons ⟨p.2,rfl⟩ ih
   exact⟨.ref s.heap.objs.size,_,Inv.lnew (t':=n) I r (by rw[List.length_map];omega),rfl,q _ (I.hok.fresh (Nat.le_refl _))⟩
 by_cases h1:(decide (z.length<y.length)||decide (Builtin.Str.strKind z<Builtin.Str.strKind y))=true
 . exact call_meets F.slot_str_split (typeIs_str _ _ _) F.entry_str_split (F.args_str_split_2 _ _) (meets_str_split_cannot_occur z y t k h1) (fin [(z,t)] s.toks (by unfold Txt.split;rw[if_pos h1];rfl))
 have h1':=Bool.eq_false_iff.mpr h1
 by_cases h2:(Builtin.Str.occurrences z y 0 z.length (z.length+1)).isEmpty=true
 . exact call_meets F.slot_str_split (typeIs_str _ _ _) F.entry_str_split (F.args_str_split_2 _ _) (meets_str_split_not_found z y t k h1' hy h2) (fin [(z,t)] s.toks (by unfold Txt.split;rw[if_neg h1,if_pos h2];rfl))
 have h2':=Bool.eq_false_iff.mpr h2
 have e:Txt.split z y=Builtin.Str.partsBetween z (Builtin.Str.occurrences z y 0 z.length (z.length+1)) y.length:=by unfold Txt.split;rw[if_neg h1,if_neg h2]
 refine call_meets F.slot_str_split (typeIs_str _ _ _) F.entry_str_split (F.args_str_split_2 _ _) (meets_str_split_sep z y t k h1' hy h2' (by omega) (by rw[<-e];omega)) ?_
 have:=fin (numbered s.toks (Builtin.Str.partsBetween z (Builtin.Str.occurrences z y 0 z.length (z.length+1)) y.length)) (s.toks+(Builtin.Str.partsBetween z (Builtin.Str.occurrences z y 0 z.length (z.length+1)) y.length).length) ((numbered_texts _ _).trans e.symm)
 rw[<-strsFrom_eq] at this
 exact this
end
noncomputable def gL (kvs:List (Str×Int)):List (Key×V):=kvs.map fun p=>(Sum.inr p.1,V.int p.2)
structure C0b(P:Program)(w:World)(K:Frag)(a:Addr)(kvs:List (Str×Int)):Prop where
 ns:(a==sysModules)=false
 ok:∀h:Heap,K.In h ->∃vs,KV (gL kvs) vs/\h.DictOf (A7f P w) a vs
noncomputable def C7f (kvs:List (Str×Int)) (z:Str):V:=match(kvs.find? fun p=>p.1=z) with
 |some p=> .int p.2
 |none=> .non
section
variable{X:Cx}{a:Addr}{kvs:List (Str×Int)}{i o:Expr}{ty td:TE}{apos cpos pos:Pos}
noncomputable def J8d (a:Addr) (kvs:List (Str×Int)) (ty td:TE):TE:=fun σ H Q=>ty σ H fun y H1=>td σ H1 fun x H2=>∃z,y= .str z/\x= .ref a/\Q (.bl (kvs.any fun p=>p.1=z)) H2
theorem C0j:∀(kvs:List (Str×Int)) (z:Str),B6f (gL kvs) (Sum.inr z)=(kvs.find? fun p=>p.1=z).map fun p=>V.int p.2
 | [],z=>rfl
 | p ::r,z=>by
   have ih:=C0j r z
   unfold B6f gL at ih ⊢
   rw[List.map_cons,List.find?_cons,List.find?_cons]
   dsimp only
   rw[C9x]
   by_cases h:p.1=z
   . rw[decide_eq_true h]
     rfl
   . rw[decide_eq_false h]
     exact ih
theorem J1q(kvs:List (Str×Int))(z:Str):(B6f (gL kvs) (Sum.inr z)).isSome=kvs.any fun p=>p.1=z:=by
 rw[C0j,Option.isSome_map]
 induction kvs with
 |nil=>rfl
 | cons p r ih=>
   rw[List.find?_cons,List.any_cons]
   by_cases h:p.1=z
   . rw[decide_eq_true h]
     rfl
   . rw[decide_eq_false h]
     exact ih
theorem G5h(G:C0b X.prog X.w X.K a kvs)(hi:PE X i ty)(ho:PE X o td):PC X .In i o (J8d a kvs ty td):=by
 intro pins s σ H Q I h
 refine thn (hi pins s σ H _ I h) fun iv s1 ⟨y,H1,I1,ry,q1⟩=>thn (ho pins s1 σ H1 _ I1 q1) fun u s2 hh_=>?_
 obtain⟨x,H2,I2,rx,z,ey,ex,q2⟩:=hh_
 subst ex ey
 obtain rfl:u=Value.ref a:=rx
 obtain⟨t,rfl⟩:=(show∃t,iv=Value.str z t from ry)
 obtain⟨vs,r,d⟩:=G.ok s2.heap I2.kIn
 refine wpAny_in_of (D0 _ _ z t) G.ns d.mapOf ?_
 rw[<-(r.val _).isSome_eq,J1q]
 exact⟨.bl _,H2,I2.tok _,rfl,q2⟩
noncomputable def J2j (a:Addr) (kvs:List (Str×Int)) (td:TE) (ta:TA):TE:=fun σ H Q=>td σ H fun x H1=>x= .ref a/\ta σ H1 fun xs H2=>∃z,xs=[.str z]/\Q (C7f kvs z) H2
theorem G0r{ta:TA}(G:C0b X.prog X.w X.K a kvs)(ho:PE X o td)(ha:PA X [i] ta)(hbase:attributeBase o "get" X.env (eval o X.env)=eval o X.env:=by rfl)
   (hfew:((backTo cpos (starEach [i] X.env)).all (fun x=> !x.1)&&(backToKw cpos (keywordEach [] X.env)).all (fun x=>x.1.isSome)
     &&decide ([i].length+([]:List Keyword).length+(if([]:List Keyword).isEmpty then 0 else 1)<30))=true:=by rfl)
   (hline:(apos.endLine==cpos.line)=true:=by rfl) (hs:starEach [i] X.env=(false,eval i X.env)::starEach [] X.env:=by rfl) (hplain:(backTo cpos (starEach [] X.env)).any (·.1)=false:=by rfl):
   PE X (.Call (.Attribute o "get" apos) [i] [] cpos) (J2j a kvs td ta):=by
 intro pins s σ H Q I h
 refine wpAny_Call_method_late hbase hfew hline rfl (thn (ho pins s σ H _ I h) fun v s1 hh_=>?_)
 obtain⟨x,H1,I1,r1,ex,q1⟩:=hh_
 subst ex
 obtain rfl:v=Value.ref a:=r1
 obtain⟨vs,r,d⟩:=G.ok s1.heap I1.kIn
 refine⟨"dict","dict.get",PySem.F.plainAttrs_dict,PySem.F.slot_dict_get,PySem.F.type_dict_get,d.typeIs,fun b e=>?_,?_⟩
 . cases e
   obtain⟨ob,es,ep,e,ex,_⟩:=d
   exact⟨ob,e,ex.2.1⟩
 have hA:=ha cpos pins s1 σ H1 _ I1 q1
 rw[hs] at hA ⊢
 refine Calls.callWith_builtin (by show(false||(backTo cpos (starEach [] X.env)).any (·.1))=false;rw[hplain]<;>rfl) (Calls.evalArgs_plain ?_)
 refine thn hA fun us s2 hh_=>?_
 obtain⟨xs,H2,I2,r2,z,ez,q2⟩:=hh_
 subst ez
 obtain⟨u,rfl,ru⟩:=r2.one
 obtain⟨t,rfl⟩:=(show∃t,u=Value.str z t from ru)
 obtain⟨vs2,r3,d2⟩:=G.ok s2.heap I2.kIn
 refine call_meetsIn PySem.F.slot_dict_get d2.typeIs PySem.F.entry_dict_get (PySem.F.args_dict_get_2 _ _) (meets_dict_get (A7f X.prog X.w) a (D0 _ _ z t) G.ns) ⟨_,d2.mapOf,?_⟩
 have rv:=r3.val (Sum.inr z)
 rw[C0j] at rv
 refine⟨C7f kvs z,H2,I2.tok _,?_,q2⟩
 unfold C7f
 cases hf:kvs.find? fun p=>p.1=z with
 | none=>
   rw[hf] at rv
   cases hv:valueAt vs2 (Sum.inr z:Key) with
   |none=>rfl
   |some u=>rw[hv] at rv;exact rv.elim
 | some p=>
   rw[hf] at rv
   obtain⟨u,eu,ru⟩:=A4c.some_of rv
   rw[eu]
   exact ru
end
end L2
namespace TR
open PySem L2 PySem.W PyProof.Rows
seal PE PS PSs PA PT PW PG PI PO
noncomputable abbrev Q0:List Str:=["self","sign","last","part"]
noncomputable abbrev Q3:List Str:=["self","sign"]
noncomputable abbrev Q4:List Str:=["context","one","other"]
noncomputable abbrev Q5:List Str:=["thing","least","most"]
noncomputable abbrev Q7:List Str:=["context","sign"]
noncomputable abbrev Q8:List Str:=["one","other"]
noncomputable abbrev Q9:List Str:=["context","sign","ideal"]
noncomputable abbrev Q10:List Str:=["context","one","count"]
noncomputable abbrev Q11:List Str:=["desk","words"]
noncomputable abbrev Q12:List Str:=["numbers","kind"]
noncomputable abbrev Q13:List Str:=["context","name","rest"]
noncomputable abbrev Q14:List Str:=["self","names"]
noncomputable abbrev Q15:List Str:=["thing","most"]
noncomputable abbrev Q16:List Str:=["self","top","bottom","power"]
noncomputable abbrev Q17:List Str:=["ideal","sign","figures","power"]
noncomputable abbrev Q18:List Str:=["context","sign","pair"]
noncomputable abbrev Q19:List Str:=["context","sign","figures","power"]
noncomputable abbrev Q20:List Str:=["context","number"]
noncomputable abbrev Q21:List Str:=["context","exact"]
noncomputable abbrev Q22:List Str:=["context","sign","exact","ideal"]
noncomputable abbrev Q23:List Str:=["sign","figures","power"]
noncomputable abbrev Q24:List Str:=["self","power"]
noncomputable abbrev Q25:List Str:=["size","middle"]
noncomputable abbrev Q26:List Str:=["self","room","way","least","most"]
noncomputable abbrev Q27:List Str:=["part","is_cut"]
noncomputable abbrev Q28:List Str:=["context","lead","part"]
noncomputable abbrev Q29:List Str:=["context","name","one","other"]
noncomputable abbrev Q30:List Str:=["self","kind","sign","figures","power"]
noncomputable abbrev Q31:List Str:=["whole","count"]
noncomputable abbrev Q32:List Str:=["number","power"]
noncomputable abbrev Q33:List Str:=["self","signal"]
noncomputable abbrev Q34:List Str:=["context","one","other","ideal"]
noncomputable abbrev Q35:List Str:=["sign","body"]
noncomputable abbrev Q36:List Str:=["digits","behind"]
noncomputable abbrev Q37:List Str:=["digits","lead"]
noncomputable abbrev Q38:List Str:=["desk","name","rest"]
noncomputable abbrev Q39:List Str:=["context","words"]
noncomputable abbrev Q40:List Str:=["_law_script","_law_k"]
noncomputable abbrev Q41:List Str:=["_law_cell","_law_k"]
noncomputable abbrev Q42:List Str:=["burst","off","cut"]
noncomputable abbrev Q43:List Str:=["room","way","bounds"]
noncomputable abbrev Q44:List Str:=["trap","flags","clear"]
noncomputable abbrev Q45:List Str:=["self","power","shift","top","bottom","whole"]
variable{P:Program}{w:World}{K:Frag}{mg:Str ->Option Value}{base:Heap}
noncomputable abbrev sr (a:Addr):Option V:=some (.ref a)
noncomputable abbrev si (a:Int):Option V:=some (.int a)
noncomputable abbrev sR (a:Str):Option V:=some (.str a)
noncomputable abbrev sI (P:Program) (w:World) (K:Frag) (mg:Str ->Option Value) (base:Heap):=A9 P w K mg base (CX1 P w)
noncomputable def top (i:Nat):Stmt:=PySem.Challenge.pw_tenreckon_k33_lines_refused.main.body.getD i (.Pass ⟨0,0,0,0⟩)
noncomputable abbrev B8d:Stmt:=(top 21)
noncomputable def J4m (K:Frag):Sp:=fun vs H Q _=>∃v lo hi,vs=[v,.int lo,.int hi]/\((A4r lo hi v/\Q (.bl true) H)\/(B0h K H lo hi v/\Q (.bl false) H))
theorem J2h:B0 Q5 Q5 (A4 B8d):=scK
theorem C1e(D:Def K mg "is_between" Q5 B8d f fd)(O:Own mg)(T:Kit K):sI P w K mg base 1 f fd Q5 (J4m K):=by
 refine A9.up (D.F.ok J2h (fun vs H Q E h=>?_) (fun cdv A outer s H vs Q E hr h=>?_))
 . obtain⟨v,lo,hi,rfl,_⟩:=h
   rfl
 obtain⟨v,lo,hi,rfl,h⟩:=h
 refine⟨_,(A2 (D7 (PW.pt (D1g (A1k (V8 (B9g O.isi (pv 0) (pty O.int_ boot_int)))) (C1y (V8 (B9g O.isi (pv 0) (pty O.bool_ boot_bool)))))) (A5 (A8 A6v)) C6) (A5 (A8 (A6e (V2 C4c (pv 0) (pv 1) (C0 _)) (A6f (V2 D1c (pv 0) (pv 2) (C0 _))))))),?_⟩
 rcases h with⟨⟨i,rfl,h1,h2⟩,k⟩|⟨⟨t,b1,b2,ty,k1,k2,bad⟩,k⟩
 . refine⟨_,rfl,_,_,_,_,true,rfl,rfl,C9b i,T.int_int,_,rfl,V1 ?_⟩
   refine⟨_,rfl,_,_,_,_,false,rfl,rfl,C9b i,T.int_bool,_,rfl,V1 ?_⟩
   refine⟨_,rfl,_,rfl,_,_,rfl,rfl,_,rfl,A0y h1 ?_⟩
   refine⟨_,rfl,_,rfl,_,_,rfl,rfl,?_⟩
   show Q (.bl (decide (i<=hi))) H
   rw[decide_eq_true h2]
   exact k
 refine⟨_,rfl,_,_,_,_,b1,rfl,rfl,ty,k1,_,rfl,?_⟩
 cases b1 with
 |false=>exact Y1 (Y1 k)
 | true=>
   refine V1 ⟨_,rfl,_,_,_,_,b2,rfl,rfl,ty,k2,_,rfl,?_⟩
   cases b2 with
   |true=>exact Y1 k
   | false=>
     obtain⟨i,rfl,out⟩:=bad.resolve_left (by decide)
     refine V1 ⟨_,rfl,_,rfl,_,_,rfl,rfl,_,rfl,U6 (fun h1=>?_) (fun h1=>?_)⟩
     . refine⟨_,rfl,_,rfl,_,_,rfl,rfl,?_⟩
       show Q (.bl (decide (i<=hi))) H
       rw[decide_eq_false (by omega:¬i<=hi)]
       exact k
     . exact k
structure Err(K:Frag)(mg:Str ->Option Value)(x:Str)(CB:Addr):Prop where
 g:mg x=some (.ref CB)
 q:excIn K CB [.type "ValueError",.type "Exception",.type "BaseException",.type "object"] "ValueError.__new__"=true
noncomputable def A7x (lo hi:Int):Prop:=lo.natAbs.log2<1920/\hi.natAbs.log2<1920/\(Str.ofString (toString lo)).length<=100/\(Str.ofString (toString hi)).length<=100
noncomputable abbrev A7c:Stmt:=(top 66)
noncomputable def B5a (K:Frag) (CB:Addr):Sp:=fun vs H Q E=>∃v lo hi,vs=[v,.int lo,.int hi]/\A7x lo hi/\((A4r lo hi v/\Q v H)\/(B0h K H lo hi v/\E (.ref CB) none H))
theorem C7z:B0 Q5 Q5 (A4 A7c):=scK
theorem C0y{f f1 CB:Addr}(D:Def K mg "bounded" Q5 A7c f fd)(D1:Def K mg "is_between" Q5 B8d f1 fd1)(O:Own mg)(T:Kit K)(B:Err K mg "BadContext" CB):
   sI P w K mg base 2 f fd Q5 (B5a K CB):=by
 have G1:=C1e (P:=P) (w:=w) (base:=base) D1 O T
 refine D.F.okE C7z (fun vs H Q E h=>?_) (fun X cdv A outer s H vs Q E hX hr hx h=>?_)
 . obtain⟨v,lo,hi,rfl,_⟩:=h
   rfl
 subst hX
 obtain⟨v,lo,hi,rfl,⟨l1,l2,l3,l4⟩,h⟩:=h
 refine⟨_,(A2 (D7 (A1k (V8 (C8 D1 G1 hr hx (A0 (pv 0) (A0 (pv 1) (A0 (pv 2) A1)))))) (A5 (Y7 (by rfl) B.g B.q PySem.F.excBase_ValueError hr.hd hx (A0 (B6r (.cons .lit (.cons (.int (pv 1)) (.cons .lit (.cons (.int (pv 2)) .nil))))) A1))) C6) (A5 (A8 (pv 0)))),?_⟩
 rcases h with⟨g,k⟩|⟨bad,k⟩
 . exact⟨_,rfl,_,rfl,_,rfl,_,_,_,rfl,.inl ⟨g,_,rfl,V1 ⟨_,rfl,k⟩⟩⟩
 have a0:Str.empty.length=0:=rfl
 have a1:(Str.ofString "not a whole number from ").length=24:=by decide+kernel
 have a2:(Str.ofString " to ").length=4:=by decide+kernel
 have sz:∀{n:Nat},n<=1000 ->n<=sizeLine:=fun h=>Nat.le_of_lt (Y6 h)
 refine⟨_,rfl,_,rfl,_,rfl,_,_,_,rfl,.inr ⟨bad,_,rfl,Y1 ?_⟩⟩
 exact⟨_,rfl,sz (by rw[strLen_append];omega),_,rfl,_,rfl,l1,_,rfl,sz (by rw[strLen_append,strLen_append];omega),_,rfl,sz (by rw[strLen_append,strLen_append,strLen_append];omega),_,rfl,_,rfl,l2,_,rfl,sz (by rw[strLen_append,strLen_append,strLen_append,strLen_append];omega),sz (by rw[strLen_append,strLen_append,strLen_append,strLen_append];omega),sz (by show 1<=1000;decide),k⟩
noncomputable abbrev A4f:Stmt:=(top 22)
noncomputable def C7w (K:Frag) (CB:Addr):Sp:=fun vs H Q E=>∃v lo hi,vs=[v,.int lo,.int hi]/\A7x lo hi/\
 ((A4r lo hi v/\Q .non H)\/(B0h K H lo hi v/\E (.ref CB) none H))
theorem C6d:B0 Q5 Q5 (A4 A4f):=scK
theorem B2h{f f1 CB:Addr}(D:Def K mg "need_between" Q5 A4f f fd)(D1:Def K mg "is_between" Q5 B8d f1 fd1)(O:Own mg)(T:Kit K)(B:Err K mg "BadNumber" CB):
   sI P w K mg base 2 f fd Q5 (C7w K CB):=by
 have G1:=C1e (P:=P) (w:=w) (base:=base) D1 O T
 refine D.F.okE C6d (fun vs H Q E h=>?_) (fun X cdv A outer s H vs Q E hX hr hx h=>?_)
 . obtain⟨v,lo,hi,rfl,_⟩:=h
   rfl
 subst hX
 obtain⟨v,lo,hi,rfl,⟨l1,l2,l3,l4⟩,h⟩:=h
 refine⟨_,(A5 (D7 (A1k (V8 (C8 D1 G1 hr hx (A0 (pv 0) (A0 (pv 1) (A0 (pv 2) A1)))))) (A5 (Y7 (by rfl) B.g B.q PySem.F.excBase_ValueError hr.hd hx (A0 (B6r (.cons .lit (.cons (.int (pv 1)) (.cons .lit (.cons (.int (pv 2)) .nil))))) A1))) C6)),?_⟩
 rcases h with⟨g,k⟩|⟨bad,k⟩
 . exact⟨_,rfl,_,rfl,_,rfl,_,_,_,rfl,.inl ⟨g,_,rfl,V1 k⟩⟩
 have a0:Str.empty.length=0:=rfl
 have a1:(Str.ofString "not a whole number from ").length=24:=by decide+kernel
 have a2:(Str.ofString " to ").length=4:=by decide+kernel
 have sz:∀{n:Nat},n<=1000 ->n<=sizeLine:=fun h=>Nat.le_of_lt (Y6 h)
 refine⟨_,rfl,_,rfl,_,rfl,_,_,_,rfl,.inr ⟨bad,_,rfl,Y1 ?_⟩⟩
 exact⟨_,rfl,sz (by rw[strLen_append];omega),_,rfl,_,rfl,l1,_,rfl,sz (by rw[strLen_append,strLen_append];omega),_,rfl,sz (by rw[strLen_append,strLen_append,strLen_append];omega),_,rfl,_,rfl,l2,_,rfl,sz (by rw[strLen_append,strLen_append,strLen_append,strLen_append];omega),sz (by rw[strLen_append,strLen_append,strLen_append,strLen_append];omega),sz (by show 1<=1000;decide),k⟩
noncomputable abbrev B3v:Stmt:=(G4 (top 11) 0)
noncomputable abbrev A6h:Stmt:=(top 16)
structure Num(K:Frag)(mg:Str ->Option Value)(CN:Addr):Prop where
 g:mg "Number"=some (.ref CN)
 cl:Cls K CN
 n1:Z0 K CN "kind"
 n2:Z0 K CN "sign"
 n3:Z0 K CN "figures"
 n4:Z0 K CN "power"
 ca:findIn K (.ref CN) "__class__"=some (some (.builtin "object.__class__"))
 sn:specialIn K (.builtin "object.__class__") "__get__"=some (some (.builtin "getset_descriptor.__get__"))
 tk:takesIn K (.builtin "object.__class__")=some true
 ob:mroIn K CN (.type "object")=some true
 self:kitOne K (.ref CN) (.ref CN)=some true
noncomputable def B3k (k s f p:V):List (Str×V):=V7 "power" p (V7 "figures" f (V7 "sign" s (V7 "kind" k [])))
theorem e12:¬(("kind":Str)="sign"):=by decide+kernel
theorem e13:¬(("kind":Str)="figures"):=by decide+kernel
theorem e14:¬(("kind":Str)="power"):=by decide+kernel
theorem e23:¬(("sign":Str)="figures"):=by decide+kernel
theorem e24:¬(("sign":Str)="power"):=by decide+kernel
theorem e34:¬(("figures":Str)="power"):=by decide+kernel
theorem B3n(k s f p:V):(B3k k s f p).lookup ("kind":Str)=some k:=by unfold B3k;rw[G3,if_neg e14,G3,if_neg e13,G3,if_neg e12,G3,if_pos rfl]
theorem B7d(k s f p:V):(B3k k s f p).lookup ("sign":Str)=some s:=by unfold B3k;rw[G3,if_neg e24,G3,if_neg e23,G3,if_pos rfl]
theorem B3f(k s f p:V):(B3k k s f p).lookup ("figures":Str)=some f:=by unfold B3k;rw[G3,if_neg e34,G3,if_pos rfl]
theorem B3j(k s f p:V):(B3k k s f p).lookup ("power":Str)=some p:=by unfold B3k;rw[G3,if_pos rfl]
noncomputable def A2j (CN:Addr) (H:Hp) (n:Addr) (k s f p:V):Prop:=∃dx,H n=some (.ins CN dx (B3k k s f p))
theorem A2j.same{CN:Addr}{H H':Hp}{n:Addr}{k s f p:V}(h:A2j CN H n k s f p)(e:B5 H H'):A2j CN H' n k s f p:=by
 obtain⟨dx,z⟩:=h
 exact⟨dx,e _ _ z⟩
theorem Num.ty{K:Frag}{mg:Str ->Option Value}{CN:Addr}(N:Num K mg CN){H:Hp}{n:Addr}{k s f p:V}(h:A2j CN H n k s f p):TyE K H (.ref n) (.ref CN):=by
 obtain⟨dx,z⟩:=h
 exact .of (.ins z N.cl N.ca N.sn N.tk N.ob)
noncomputable def B6d (CN:Addr):Sp:=fun vs H Q _=>∃(p dx:Addr) (k s f pw:V),vs=[.ref p,k,s,f,pw]/\H p=some (.ins CN dx [])/\∀H',H' p=some (.ins CN dx (B3k k s f pw)) ->(∀b o,H b=some o ->b≠p ->H' b=some o) ->Q .non H'
theorem G7d:B0 Q30 Q30 (A4 B3v):=scK
theorem G2u{f CN:Addr}(F:Fun K "__init__" "Number.__init__" B3v f fd)(N:Num K mg CN):A9 P w K mg base CX0 1 f fd Q30 (B6d CN):=by
 refine F.ok G7d (fun vs H Q E h=>?_) (fun cdv A outer s H vs Q E hr h=>?_)
 . obtain⟨p,dx,a,b,c,d,rfl,_⟩:=h
   rfl
 obtain⟨p,dx,a,b,c,d,rfl,hp,k⟩:=h
 refine⟨_,A2 (Z6 (pv 0) (pv 1) rfl) (A2 (Z6 (pv 0) (pv 2) rfl) (A2 (Z6 (pv 0) (pv 3) rfl) (A5 (Z6 (pv 0) (pv 4) rfl)))),?_⟩
 have l:∀(fs:List (Str×V)) (f:Str) (v:V) (n:Nat),fs.length<=n ->(V7 f v fs).length<=n+1:=fun fs f v n h=>Nat.le_trans (A1h f v fs) (Nat.succ_le_succ h)
 refine⟨_,rfl,_,rfl,p,CN,dx,[],rfl,hp,N.cl,N.n1,(by show 0<1000;decide),?_⟩
 refine⟨_,rfl,_,rfl,p,CN,dx,_,rfl,A6,N.cl,N.n2,Nat.lt_of_le_of_lt (l _ _ _ 0 (Nat.le_refl _)) (by decide),?_⟩
 refine⟨_,rfl,_,rfl,p,CN,dx,_,rfl,A6,N.cl,N.n3,Nat.lt_of_le_of_lt (l _ _ _ 1 (l _ _ _ 0 (Nat.le_refl _))) (by decide),?_⟩
 refine⟨_,rfl,_,rfl,p,CN,dx,_,rfl,A6,N.cl,N.n4,Nat.lt_of_le_of_lt (l _ _ _ 2 (l _ _ _ 1 (l _ _ _ 0 (Nat.le_refl _)))) (by decide),?_⟩
 refine k _ A6 fun b o e hb=>?_
 rw[C9 hb,C9 hb,C9 hb,C9 hb]
 exact e
structure B0g(P:Program)(w:World)(K:Frag)(mg:Str ->Option Value)(base:Heap)(CN fI:Addr)(fdI:FuncData):Prop where
 m:Mk K CN fI
 g:A9 P w K mg base CX0 1 fI fdI Q30 (B6d CN)
 b:Binds K fdI Q30 []
theorem made{CN:Addr}{H:Hp}{Q:VK}{k s f p:V}(h:∀n H',H n=none ->B5 H H' ->A2j CN H' n k s f p ->Q (.ref n) H'):
   ∀x dx,H x=none ->H dx=none ->dx≠x ->B6d CN (.ref x::([k,s,f,p]++ [])) (upd (upd H dx (.own x)) x (.ins CN dx [])) (fun v H2=>v= .non/\Q (.ref x) H2) E0:=by
 intro x dx nx nd ne
 refine⟨x,dx,k,s,f,p,rfl,A6,fun H' e kp=>⟨rfl,h x H' nx (fun b o z=>?_) ⟨dx,e⟩⟩⟩
 refine kp b o ?_ (D5 z nx)
 rw[C9 (D5 z nx),C9 (D5 z nd)]
 exact z
noncomputable def C2u (K:Frag) (CN:Addr) (H:Hp) (v:V):Prop:=∃t,TyE K H v t/\kitOne K t (.ref CN)=some false
noncomputable def A8f (K:Frag) (CN CB:Addr):Sp:=fun vs H Q E=>∃v,vs=[v]/\((∃n k s f p,v= .ref n/\A2j CN H n k s f p/\Q v H)\/(C2u K CN H v/\E (.ref CB) none H))
theorem G1k:B0 ["thing"] ["thing"] (A4 A6h):=scK
theorem D2c{f CN CB:Addr}(D:Def K mg "need_number" ["thing"] A6h f fd)(O:Own mg)(T:Kit K)(B:Err K mg "BadNumber" CB)(N:Num K mg CN):sI P w K mg base 1 f fd ["thing"] (A8f K CN CB):=by
 refine D.F.okE G1k (fun vs H Q E h=>?_) (fun X cdv A outer s H vs Q E hX hr hx h=>?_)
 . obtain⟨v,rfl,_⟩:=h
   rfl
 subst hX
 obtain⟨v,rfl,h⟩:=h
 refine⟨_,(A2 (D7 (A1k (V8 (B9g O.isi (pv 0) (C9v N.g)))) (A5 (Y7 (by rfl) B.g B.q PySem.F.excBase_ValueError hr.hd hx (A0 A3 A1))) C6) (A5 (A8 (pv 0)))),?_⟩
 rcases h with⟨n,a,b,c,d,rfl,hn,k⟩|⟨⟨t,ty,k1⟩,k⟩
 . exact⟨_,rfl,_,_,_,_,true,rfl,rfl,N.ty hn,N.self,_,rfl,V1 ⟨_,rfl,k⟩⟩
 exact⟨_,rfl,_,_,_,t,false,rfl,rfl,ty,k1,_,rfl,Y1 ⟨Nat.le_of_lt (Y6 (by show 1<=1000;decide)),k⟩⟩
noncomputable abbrev B7a:Stmt:=(top 12)
noncomputable abbrev C2z:Stmt:=(top 13)
noncomputable abbrev A1z:Stmt:=(top 14)
noncomputable def C3n (K:Frag) (CN CB:Addr):Sp:=fun vs H Q E=>∃x y z,vs=[x,y,z]/\
 ((A4r 0 1 x/\A4r 0 (10^60-1) y/\A4r (-200) 200 z/\∀n H',H n=none ->B5 H H' ->A2j CN H' n (.str "plain") x y z ->Q (.ref n) H')\/
  ((B0h K H 0 1 x\/(A4r 0 1 x/\(B0h K H 0 (10^60-1) y\/(A4r 0 (10^60-1) y/\B0h K H (-200) 200 z))))/\E (.ref CB) none H))
theorem G2b:B0 Q23 Q23 (A4 B7a):=scK
theorem b01:A7x 0 1:=by unfold A7x;decide+kernel
theorem b60:A7x 0 (10^60-1):=by unfold A7x;decide+kernel
theorem J2x:A7x (-200) 200:=by unfold A7x;decide+kernel
theorem D0m{f f1 f2 fI CN CB:Addr}{fd fd1 fd2 fdI:FuncData}(D:Def K mg "plain" Q23 B7a f fd)(dA:Def K mg "need_between" Q5 A4f f1 fd1)(D2:Def K mg "is_between" Q5 B8d f2 fd2)
   (O:Own mg) (T:Kit K) (B:Err K mg "BadNumber" CB) (N:Num K mg CN) (M:B0g P w K mg base CN fI fdI):sI P w K mg base 3 f fd Q23 (C3n K CN CB):=by
 have G_need_between:=B2h (P:=P) (w:=w) (base:=base) dA D2 O T B
 refine D.F.okE G2b (fun vs H Q E h=>?_) (fun X cdv A outer s H vs Q E hX hr hx h=>?_)
 . obtain⟨x,y,z,rfl,_⟩:=h
   rfl
 subst hX
 obtain⟨x,y,z,rfl,h⟩:=h
 refine⟨_,(A2 (U5 (C8 dA G_need_between hr hx (A0 (pv 0) (A0 A7 (A0 A7 A1))))) (A2 (U5 (C8 dA G_need_between hr hx (A0 (pv 1) (A0 A7 (A0 (D4 A0k (D4 D1a A7 A7) A7) A1))))) (A2 (U5 (C8 dA G_need_between hr hx (A0 (pv 2) (A0 (A5w A2p A7) (A0 A7 A1))))) (A5 (A8 (B6p M.m M.g hr rfl N.g M.b .nil D2d (A0 A3 (A0 (pv 0) (A0 (pv 1) (A0 (pv 2) A1)))))))))),?_⟩
 have pw:G5j 10 60:=⟨by decide,by decide,by decide⟩
 rcases h with⟨⟨i1,rfl,l1,u1⟩,⟨i2,rfl,l2,u2⟩,⟨i3,rfl,l3,u3⟩,k⟩|⟨bad,k⟩
 . refine⟨_,rfl,_,_,_,rfl,b01,.inl ⟨⟨i1,rfl,l1,u1⟩,?_⟩⟩
   refine⟨_,rfl,_,_,rfl,rfl,pw,_,_,rfl,rfl,_,_,_,rfl,b60,.inl ⟨⟨i2,rfl,l2,u2⟩,?_⟩⟩
   refine⟨_,rfl,_,rfl,_,_,_,rfl,J2x,.inl ⟨⟨i3,rfl,l3,u3⟩,?_⟩⟩
   exact⟨_,rfl,_,rfl,_,rfl,made k⟩
 rcases bad with bad|⟨⟨i1,rfl,l1,u1⟩,bad|⟨⟨i2,rfl,l2,u2⟩,bad⟩⟩
 . exact⟨_,rfl,_,_,_,rfl,b01,.inr ⟨bad,k⟩⟩
 . refine⟨_,rfl,_,_,_,rfl,b01,.inl ⟨⟨i1,rfl,l1,u1⟩,?_⟩⟩
   exact⟨_,rfl,_,_,rfl,rfl,pw,_,_,rfl,rfl,_,_,_,rfl,b60,.inr ⟨bad,k⟩⟩
 refine⟨_,rfl,_,_,_,rfl,b01,.inl ⟨⟨i1,rfl,l1,u1⟩,?_⟩⟩
 refine⟨_,rfl,_,_,rfl,rfl,pw,_,_,rfl,rfl,_,_,_,rfl,b60,.inl ⟨⟨i2,rfl,l2,u2⟩,?_⟩⟩
 exact⟨_,rfl,_,rfl,_,_,_,rfl,J2x,.inr ⟨bad,k⟩⟩
noncomputable def B9s (K:Frag) (CN CB:Addr):Sp:=fun vs H Q E=>∃x,vs=[x]/\((A4r 0 1 x/\∀n H',H n=none ->B5 H H' ->A2j CN H' n (.str "end") x (.int 0) (.int 0) ->Q (.ref n) H')\/(B0h K H 0 1 x/\E (.ref CB) none H))
theorem J3q:B0 ["sign"] ["sign"] (A4 C2z):=scK
theorem G6r{f f1 f2 fI CN CB:Addr}{fd fd1 fd2 fdI:FuncData}(D:Def K mg "end" ["sign"] C2z f fd)(dA:Def K mg "need_between" Q5 A4f f1 fd1)(D2:Def K mg "is_between" Q5 B8d f2 fd2)
   (O:Own mg) (T:Kit K) (B:Err K mg "BadNumber" CB) (N:Num K mg CN) (M:B0g P w K mg base CN fI fdI):sI P w K mg base 3 f fd ["sign"] (B9s K CN CB):=by
 have G_need_between:=B2h (P:=P) (w:=w) (base:=base) dA D2 O T B
 refine D.F.okE J3q (fun vs H Q E h=>?_) (fun X cdv A outer s H vs Q E hX hr hx h=>?_)
 . obtain⟨x,rfl,_⟩:=h
   rfl
 subst hX
 obtain⟨x,rfl,h⟩:=h
 refine⟨_,(A2 (U5 (C8 dA G_need_between hr hx (A0 (pv 0) (A0 A7 (A0 A7 A1))))) (A5 (A8 (B6p M.m M.g hr rfl N.g M.b .nil D2d (A0 A3 (A0 (pv 0) (A0 A7 (A0 A7 A1)))))))),?_⟩
 rcases h with⟨⟨i1,rfl,l1,u1⟩,k⟩|⟨bad,k⟩
 . refine⟨_,rfl,_,_,_,rfl,b01,.inl ⟨⟨i1,rfl,l1,u1⟩,?_⟩⟩
   exact⟨_,rfl,made k⟩
 exact⟨_,rfl,_,_,_,rfl,b01,.inr ⟨bad,k⟩⟩
noncomputable def A2u (CN:Addr):Sp:=fun vs H Q _=>vs=[]/\∀n H',H n=none ->B5 H H' ->A2j CN H' n (.str "none") (.int 0) (.int 0) (.int 0) ->Q (.ref n) H'
theorem C6x:B0 [] [] (A4 A1z):=scK
theorem C1d{f fI CN:Addr}{fd fdI:FuncData}(D:Def K mg "nothing" [] A1z f fd)(N:Num K mg CN)(M:B0g P w K mg base CN fI fdI):sI P w K mg base 3 f fd [] (A2u CN):=by
 refine D.F.okE C6x (fun vs H Q E h=>?_) (fun X cdv A outer s H vs Q E hX hr hx h=>?_)
 . obtain⟨rfl,_⟩:=h
   rfl
 subst hX
 obtain⟨rfl,k⟩:=h
 refine⟨_,(A5 (A8 (B6p M.m M.g hr rfl N.g M.b .nil D2d (A0 A3 (A0 A7 (A0 A7 (A0 A7 A1))))))),?_⟩
 exact made k
noncomputable abbrev B8w:Stmt:=(top 15)
noncomputable def C1f (CN:Addr):Sp:=fun vs H Q _=>∃n k s f p,vs=[.ref n]/\A2j CN H n k s (.int f) (.int p)/\f.natAbs<2^300/\Q (.int (p+((Str.ofString (toString f)).length:Nat)-1)) H
theorem G6f:B0 ["number"] ["number"] (A4 B8w):=scK
theorem G1w{f CN:Addr}(D:Def K mg "lead_of" ["number"] B8w f fd)(O:Own mg)(N:Num K mg CN):sI P w K mg base 1 f fd ["number"] (C1f CN):=by
 refine D.F.okE G6f (fun vs H Q E h=>?_) (fun X cdv A outer s H vs Q E hX hr hx h=>?_)
 . obtain⟨n,a,b,c,d,rfl,_⟩:=h
   rfl
 subst hX
 obtain⟨n,a,b,fg,pw,rfl,⟨dx,e⟩,hf,k⟩:=h
 refine⟨_,(A5 (A8 (D4 A0k (D4 A0w (D6 (pv 0) rfl) (U2 Z1 (by rfl) O.len_ PySem.boot_len (A0 (Z4 A3v (by rfl) O.str_ boot_str (A0 (D6 (pv 0) rfl) A1)) A1))) A7))),?_⟩
 have lg:fg.natAbs.log2<1920:=Nat.lt_trans (A3p hf (by decide)) (by decide)
 exact⟨_,rfl,n,CN,dx,_,_,rfl,e,N.cl,N.n4,B3j _ _ _ _,_,rfl,n,CN,dx,_,_,rfl,e,N.cl,N.n3,B3f _ _ _ _,_,rfl,lg,_,rfl,int_text_fits lg,_,_,rfl,rfl,_,_,rfl,rfl,k⟩
noncomputable abbrev A3c:Stmt:=(top 8)
noncomputable abbrev A3t:Stmt:=(top 9)
theorem B0z{x k:Nat}(h:x<2^k)(hk:k<=1048576):Builtin.Int.intBits (x:Int)<=2^20:=by
 unfold Builtin.Int.intBits
 split
 . exact Nat.zero_le _
 have z:(x:Int).natAbs≠0:=by
   intro z
   rename_i hz
   exact hz (by simpa using z)
 have:(x:Int).natAbs.log2<k:=(Nat.log2_lt z).mpr h
 have e:(2:Nat)^20=1048576:=by decide
 omega
theorem B1m{b s j n:Nat}(hb:b<2^s)(hj:j<=n)(hn:n*s<1048576):Builtin.Int.intBits ((b^j:Nat):Int)<=2^20:=by
 refine B0z (k:=n*s+1) ?_ hn
 have a:b^j<=(2^s)^j:=Nat.pow_le_pow_left (Nat.le_of_lt hb) j
 have c:(2^s)^j<=2^(n*s):=by
   rw[<-Nat.pow_mul,Nat.mul_comm n s]
   exact Nat.pow_le_pow_right (by decide) (Nat.mul_le_mul_left s hj)
 have d:2^(n*s)<2^(n*s+1):=Nat.pow_lt_pow_right (by decide) (by omega)
 exact Nat.lt_of_le_of_lt a (Nat.lt_of_le_of_lt c d)
theorem A8r{b s i j n:Nat}(hb:b<2^s)(hi:i<=n)(hj:j<=n)(hn:n*s<1048576):IntMulOk ((b^i:Nat):Int) ((b^j:Nat):Int):=IntMulOk.of_bits (B1m hb hi hn) (B1m hb hj hn)
noncomputable def A9z:Sp:=fun vs H Q _=>∃b n s:Nat,vs=[.int (b:Int),.int (n:Int)]/\b<2^s/\n*s<1048576/\Q (.int ((b^n:Nat):Int)) H
theorem scProductOf:B0 ["whole","count","product"] Q31 (A4 A3c):=scK
theorem B6j(D:Def K mg "product_of" Q31 A3c f fd):sI P w K mg base 1 f fd Q31 A9z:=by
 refine A9.up (D.F.ok scProductOf (fun vs H Q E h=>?_) (fun cdv A outer s H vs Q E hr h=>?_))
 . obtain⟨b,n,z,rfl,_⟩:=h
   rfl
 obtain⟨b,n,z,rfl,hb,hn,k⟩:=h
 refine⟨_,(A2 (D3 (i:=2) scProductOf.nd rfl (Or.inl rfl) A7) (A2 (B2w PassesOwn.never (B9 A8c (pv 1) A7 (C0 _)) (A2 (D7 (B9 D9 (D4 A2q (pv 1) A7) A7 (C0 _)) (A5 (D3 (i:=2) scProductOf.nd rfl (Or.inl rfl) (D4 Z7 (pv 2) (pv 0)))) C6) (A2 (D3 (i:=0) scProductOf.nd rfl (Or.inl rfl) (D4 Z7 (pv 0) (pv 0))) (A5 (D3 (i:=1) scProductOf.nd rfl (Or.inl rfl) (D4 A0n (pv 1) A7)))))) (A5 (A8 (pv 2))))),?_⟩
 have d2:(0:Int)<2/\(2:Int).natAbs.log2<9000:=⟨by decide,by decide+kernel⟩
 refine B2f (fun σ H2=>H2=H/\∃i m c:Nat,m+i*c=n/\σ=[si ((b^i:Nat):Int),si (c:Int),si ((b^m:Nat):Int)]) (fun σ _=>match σ with| [_,some (.int c),_]=>c.toNat|_=>0) ?_ ?_ ?_
 . exact⟨rfl,1,0,n,by omega,by rw[Nat.pow_one];rfl⟩
 . rintro σ H2 ⟨rfl,i,m,c,hc,rfl⟩
   refine⟨_,rfl,_,_,rfl,rfl,_,rfl,U6 (fun h0=>?_) (fun h0=>?_)⟩
   . have c1:1<=c:=by
       have:(0:Int)<c:=h0
       omega
     have hi:i<=n:=Nat.le_trans (Nat.le_mul_of_pos_right i c1) (by omega)
     have hm:m<=n:=by omega
     have sq:((b^i:Nat):Int)*((b^i:Nat):Int)=((b^(2*i):Nat):Int):=by rw[Nat.two_mul,Nat.pow_add];rfl
     have lt:((c:Int)/2).toNat<(c:Int).toNat:=by omega
     refine⟨_,rfl,_,_,rfl,rfl,d2.1,rfl,_,rfl,U6 (fun ho=>?_) (fun he=>?_)⟩
     . have ho:(c:Int) % 2=1:=by injection ho
       have mu:((b^m:Nat):Int)*((b^i:Nat):Int)=((b^(m+i):Nat):Int):=by rw[Nat.pow_add];rfl
       refine⟨_,rfl,_,rfl,_,_,rfl,rfl,A8r hb hm hi hn,_,rfl,_,rfl,_,_,rfl,rfl,A8r hb hi hi hn,_,rfl,_,_,rfl,rfl,d2,⟨rfl,2*i,m+i,c/2,?_,?_⟩,lt⟩
       . have e:i*c=i*(2*(c/2)+1):=congrArg (i* ·) (by omega)
         rw[Nat.mul_add,Nat.mul_one, <-Nat.mul_assoc,Nat.mul_comm i 2] at e
         omega
       . show [si (((b^i:Nat):Int)*((b^i:Nat):Int)),si ((c:Int)/2),si (((b^m:Nat):Int)*((b^i:Nat):Int))]=_
         rw[sq,mu]
         rfl
     . have he:¬(c:Int) % 2=1:=fun z=>he (congrArg V.int z)
       refine⟨_,rfl,_,rfl,_,_,rfl,rfl,A8r hb hi hi hn,_,rfl,_,_,rfl,rfl,d2,⟨rfl,2*i,m,c/2,?_,?_⟩,lt⟩
       . have e:i*c=i*(2*(c/2)):=congrArg (i* ·) (by omega)
         rw[<-Nat.mul_assoc,Nat.mul_comm i 2] at e
         omega
       . show [si (((b^i:Nat):Int)*((b^i:Nat):Int)),si ((c:Int)/2),si ((b^m:Nat):Int)]=_
         rw[sq]
         rfl
   . have c0:c=0:=by
       have:¬(0:Int)<c:=h0
       omega
     subst c0
     have hm:m=n:=by omega
     subst hm
     exact⟨_,rfl,k⟩
 rintro σ H2 Q1 Q2 hQ ⟨v,e,i,j,e1,e2,b,e3,q⟩
 exact⟨v,e,i,j,e1,e2,b,e3,hQ _ _ q⟩
noncomputable def A5f:Sp:=fun vs H Q _=>∃n:Nat,vs=[.int (n:Int)]/\n<=4000/\Q (.int ((10^n:Nat):Int)) H
theorem G0b:B0 ["count"] ["count"] (A4 A3t):=scK
theorem D3y(D:Def K mg "ten_to" ["count"] A3t f fd)(dA:Def K mg "product_of" Q31 A3c f1 fd1)(dB:sI P w K mg base 1 f1 fd1 Q31 A9z):sI P w K mg base 2 f fd ["count"] A5f:=by
 refine A9.up (D.F.ok G0b (fun vs H Q E h=>?_) (fun cdv A outer s H vs Q E hr h=>?_))
 . obtain⟨n,rfl,_⟩:=h
   rfl
 obtain⟨n,rfl,hn,k⟩:=h
 have hx:G7 (A0v CX0 P w K mg base ["count"] "ten_to" (A4 A3t) f cdv A outer s H E).nox EKF:=Y8
 refine⟨_,(A5 (A8 (C8 dA dB hr hx (A0 A7 (A0 (pv 0) A1))))),?_⟩
 exact⟨_,rfl,10,n,4,rfl,by decide,by omega,k⟩
inductive Kd where
 |plain|end_|none
noncomputable def Kd.str:Kd ->Str
 | .plain=>"plain"
 | .end_=>"end"
 | .none=>"none"
theorem Kd.str_inj{a b:Kd}(h:a.str=b.str):a=b:=by
 cases a<;>cases b<;>first|rfl|exact absurd h (by decide+kernel)
structure Nm where
 k:Kd
 s:Int
 f:Int
 p:Int
structure Nm.Ok(x:Nm):Prop where
 s0:0<=x.s
 s1:x.s<=1
 f0:0<=x.f
 f1:x.f<=10^60-1
 p0: -200<=x.p
 p1:x.p<=200
noncomputable def Y0 (CN:Addr) (H:Hp) (n:Addr) (x:Nm):Prop:=A2j CN H n (.str x.k.str) (.int x.s) (.int x.f) (.int x.p)
theorem Y0.same{CN:Addr}{H H':Hp}{n:Addr}{x:Nm}(h:Y0 CN H n x)(e:B5 H H'):Y0 CN H' n x:=A2j.same h e
structure D4j(CN:Addr)(H:Hp)(l:Addr)(ns:List (Addr×Nm)):Prop where
 l:H l=some (.lst (ns.map fun p=>V.ref p.1))
 n:∀p∈ns,Y0 CN H p.1 p.2
noncomputable def C7 (n:Int):Int:=((10^n.toNat:Nat):Int)
theorem Y2(n:Int):0<C7 n:=Int.natCast_pos.mpr (Nat.pow_pos (by decide))
theorem neS{a b:Kd}(h:¬V.str a.str=V.str b.str):a≠b:=fun q=>h (by rw[q])
theorem eqS{a b:Kd}(h:V.str a.str=V.str b.str):a=b:=Kd.str_inj (by injection h)
structure Nm.Bg(x:Nm):Prop where
 f0:0<=x.f
 f1:x.f<C7 120
 p0: -400<=x.p
 p1:x.p<=400
theorem Nm.Ok.bg{x:Nm}(h:x.Ok):x.Bg:=⟨h.f0,Int.lt_of_le_of_lt h.f1 (by decide+kernel),by have:=h.p0;omega,by have:=h.p1;omega⟩
theorem Nm.Bg.bits{x:Nm}(h:x.Bg):Builtin.Int.intBits x.f<=2^20:=by
 obtain⟨n,hn⟩:=Int.eq_ofNat_of_zero_le h.f0
 rw[hn]
 refine B0z (k:=400) ?_ (by decide)
 have:=h.f1
 have e:C7 120=((10^120:Nat):Int):=rfl
 have:n<10^120:=by omega
 exact Nat.lt_trans this (by decide+kernel)
noncomputable abbrev A7d:Stmt:=(top 17)
noncomputable abbrev A8w:Stmt:=(top 18)
noncomputable abbrev A4d:Stmt:=(top 20)
noncomputable def B1w (K:Frag) (CN CB:Addr):Sp:=fun vs H Q E=>∃l ns,vs=[.ref l]/\(∀p∈(ns:List (Addr×Nm)),Y0 CN H p.1 p.2)/\
 ((H l=some (.lst (ns.map fun p=>V.ref p.1))/\Q .non H)\/(∃v r,H l=some (.lst ((ns.map fun p=>V.ref p.1)++v::r))/\C2u K CN H v/\E (.ref CB) none H))
theorem scNeedNs:B0 ["things","thing"] ["things"] (A4 A7d):=scK
theorem C7b{f f1 CN CB:Addr}(D:Def K mg "need_numbers" ["things"] A7d f fd)(dA:Def K mg "need_number" ["thing"] A6h f1 fd1)(dB:sI P w K mg base 1 f1 fd1 ["thing"] (A8f K CN CB)):sI P w K mg base 2 f fd ["things"] (B1w K CN CB):=by
 refine D.F.okE scNeedNs (fun vs H Q E h=>?_) (fun X cdv A outer s H vs Q E hX hr hx h=>?_)
 . obtain⟨l,ns,rfl,_⟩:=h
   rfl
 subst hX
 obtain⟨l,ns,rfl,hn,h⟩:=h
 refine⟨_,(A5 (B6v PassesOwn.leaving rfl (A2g (pv 0)) (A1c (i:=1) scNeedNs.nd rfl (Or.inl rfl)) (A5 (U5 (C8 dA dB hr hx (A0 (pv 1) A1)))))),?_⟩
 rcases h with⟨hl,k⟩|⟨v,r,hl,nv,k⟩
 . refine⟨_,rfl,l,rfl,⟨_,SqL.of hl⟩,A4x (xs:=ns.map fun p=>V.ref p.1) (fun i σ H'=>H'=H/\∃v,σ=[sr l,v]) ⟨rfl,none,rfl⟩ ?_ ?_ ?_⟩
   . rintro i σ H' _ ⟨rfl,_⟩
     exact SqL.of hl
   . rintro i x σ H' hi ⟨rfl,v,rfl⟩
     obtain⟨p,hp,rfl⟩:=List.mem_map.mp (List.mem_of_getElem? hi)
     exact⟨_,rfl,_,rfl,.inl ⟨p.1,_,_,_,_,rfl,hn p hp,rfl,_,rfl⟩⟩
   . rintro σ H' ⟨rfl,v,rfl⟩
     exact k
 refine⟨_,rfl,l,rfl,⟨_,SqL.of hl⟩,A4x (xs:=(ns.map fun p=>V.ref p.1)++v::r) (fun i σ H'=>H'=H/\i<=ns.length/\∃v,σ=[sr l,v]) ⟨rfl,Nat.zero_le _,none,rfl⟩ ?_ ?_ ?_⟩
 . rintro i σ H' _ ⟨rfl,_⟩
   exact SqL.of hl
 . rintro i x σ H' hi ⟨rfl,hle,u,rfl⟩
   by_cases hlt:i<ns.length
   . rw[List.getElem?_append_left (by simpa using hlt)] at hi
     obtain⟨p,hp,rfl⟩:=List.mem_map.mp (List.mem_of_getElem? hi)
     exact⟨_,rfl,_,rfl,.inl ⟨p.1,_,_,_,_,rfl,hn p hp,rfl,by omega,_,rfl⟩⟩
   . have e:i=ns.length:=by omega
     subst e
     rw[List.getElem?_append_right (by simp)] at hi
     simp at hi
     subst hi
     exact⟨_,rfl,_,rfl,.inr ⟨nv,k⟩⟩
 rintro σ H' ⟨rfl,hle,_⟩
 exfalso
 rw[List.length_append,List.length_map,List.length_cons] at hle
 omega
noncomputable def B1b (CN:Addr):Sp:=fun vs H Q _=>∃l ns z,vs=[.ref l,.str z]/\D4j CN H l ns/\ns.length<=1000/\∀H',B5 H H' ->Q (.bl (ns.any fun p=>decide (p.2.k.str=z))) H'
theorem G1s:B0 Q12 Q12 (A4 A8w):=scK
theorem G8k(ns:List (Addr×Nm))(z:Str):(ns.map fun p=>decide (p.2.k.str=z)).any id=ns.any fun p=>decide (p.2.k.str=z):=by rw[List.any_map];rfl
theorem dec_str{a b:Str}:decide (V.str a=V.str b)=decide (a=b):=by
 by_cases h:a=b
 . rw[decide_eq_true h,decide_eq_true (congrArg V.str h)]
 rw[decide_eq_false h,decide_eq_false fun q=>h (by injection q)]
theorem D0g{f CN:Addr}(D:Def K mg "some_of_kind" Q12 A8w f fd)(O:Own mg)(N:Num K mg CN):sI P w K mg base 1 f fd Q12 (B1b CN):=by
 refine A9.up (D.F.ok G1s (fun vs H Q E h=>?_) (fun cdv A outer s H vs Q E hr h=>?_))
 . obtain⟨l,ns,z,rfl,_⟩:=h
   rfl
 obtain⟨l,ns,z,rfl,⟨hl,hn⟩,hz,k⟩:=h
 refine⟨_,(A5 (A8 (U2 (D2q hr.hd) (by rfl) O.any_ boot_any (A0 (A5e (N:=["number"]) (F:=["kind"]) (js:=[1]) (G0.of1 ⟨rfl,by decide+kernel,by decide+kernel,by decide+kernel,by decide+kernel⟩ (by rfl) (by rfl) ⟨_,by rfl⟩ (by rfl) (by rfl)) (.inl hr.hd) rfl (A2g (pv 0)) rfl (fun C s₀ H₀ ex pn h=>A1c (i:=0) (by decide+kernel:(["number","kind"]:List Str).Nodup) rfl (Or.inl rfl)) (fun C s₀ H₀ ex pn h=>(V2 D9 (G2a (K:=K) rfl (pv 0) rfl) (pv 1) (C0 _)))) A1)))),?_⟩
 refine⟨_,rfl,l,rfl,⟨_,SqL.of hl⟩,A8s (J:=Itl K l) (n:=ns.length) (fun i y _=>∃p,ns[i]?=some p/\y= .bl (decide (p.2.k.str=z))) hz (fun _ _ _ _ _ _ h _ _=>h) (fun i H2 Qy hi sm hy=>⟨⟨_,V.ref ns[i].1,SqL.of (sm _ _ hl),by simp[hi]⟩,fun x H3 yl=>?_⟩) (fun H2 sm=>⟨_,SqL.of (sm _ _ hl),by simp⟩) (fun D H' ys sm nD eD hlen hR=>?_)⟩
 . obtain⟨rfl,yl⟩:=yl
   have ex:x=V.ref ns[i].1:=by
     have:=yl _ (SqL.of (sm _ _ hl))
     simp[hi] at this
     exact this.symm
   subst ex
   obtain⟨dx,e⟩:=(hn _ (List.getElem_mem hi)).same sm
   refine⟨_,rfl,ns[i].1,CN,dx,_,_,rfl,e,N.cl,N.n1,B3n _ _ _ _,_,rfl,rfl,hy _ _ (B5.refl _) ⟨ns[i],by simp[hi],?_⟩⟩
   rw[dec_str]
 have ey:ys=(ns.map fun p=>decide (p.2.k.str=z)).map V.bl:=by
   apply List.ext_getElem?
   intro i
   by_cases hi:i<ns.length
   . obtain⟨p,hp,hy⟩:=hR i ys[i] (by simp[hlen,hi])
     rw[List.getElem?_eq_getElem (by omega),hy]
     simp[hp]
   . rw[List.getElem?_eq_none (by omega),List.getElem?_eq_none (by simp;omega)]
 subst ey
 refine⟨D,_,rfl,SqL.of eD,?_⟩
 rw[G8k]
 exact k H' sm
noncomputable def Nm.wh (x:Nm) (q:Int):Int:=if x.s=1 then -(x.f*C7 (x.p-q)) else x.f*C7 (x.p-q)
noncomputable def B4q (CN:Addr):Sp:=fun vs H Q _=>∃n x q,vs=[.ref n,.int q]/\Y0 CN H n x/\x.Bg/\0<=x.p-q/\x.p-q<=1000/\Q (.int (x.wh q)) H
theorem scWholeAt:B0 ["number","power","size"] Q32 (A4 A4d):=scK
theorem B3r{d:Int}(h:d<=4000):Builtin.Int.intBits (C7 d)<=2^20:=B1m (b:=10) (s:=4) (n:=4000) (by decide) (by omega) (by decide)
theorem C2t{f f1 CN:Addr}(D:Def K mg "whole_at" Q32 A4d f fd)(dA:Def K mg "ten_to" ["count"] A3t f1 fd1)(dB:sI P w K mg base 2 f1 fd1 ["count"] A5f)(N:Num K mg CN):sI P w K mg base 3 f fd Q32 (B4q CN):=by
 refine A9.up (D.F.ok scWholeAt (fun vs H Q E h=>?_) (fun cdv A outer s H vs Q E hr h=>?_))
 . obtain⟨n,x,q,rfl,_⟩:=h
   rfl
 obtain⟨n,x,q,rfl,⟨dx,e⟩,ok,h0,h1,k⟩:=h
 have hx:G7 (A0v CX0 P w K mg base ["number","power","size"] "whole_at" (A4 A4d) f cdv A outer s H E).nox EKF:=Y8
 refine⟨_,(A2 (D3 (i:=2) scWholeAt.nd rfl (Or.inl rfl) (D4 Z7 (D6 (pv 0) rfl) (C8 dA dB hr hx (A0 (D4 A0k (D6 (pv 0) rfl) (pv 1)) A1)))) (A5 (A8 (U1 (B9 D9 (D6 (pv 0) rfl) A7 (C0 _)) (A5w A2p (pv 2)) (pv 2))))),?_⟩
 have mu:IntMulOk x.f (C7 (x.p-q)):=IntMulOk.of_bits ok.bits (B3r (by omega))
 refine⟨_,rfl,n,CN,dx,_,_,rfl,e,N.cl,N.n3,B3f _ _ _ _,_,rfl,n,CN,dx,_,_,rfl,e,N.cl,N.n4,B3j _ _ _ _,_,rfl,_,_,rfl,rfl,(x.p-q).toNat,(by rw[Int.toNat_of_nonneg h0];rfl),by omega,_,_,rfl,rfl,mu,?_⟩
 refine⟨_,rfl,n,CN,dx,_,_,rfl,e,N.cl,N.n2,B7d _ _ _ _,rfl,_,rfl,?_⟩
 unfold Nm.wh at k
 refine U6 (fun h=>?_) (fun h=>?_)
 . rw[if_pos (by injection h)] at k
   exact⟨_,rfl,_,rfl,k⟩
 rw[if_neg fun q=>h (congrArg V.int q)] at k
 exact⟨_,rfl,k⟩
noncomputable def A5z (left low:Int):Int:=(if decide (0<left)=true then 1 else 0)+(if decide (low<=2*left)=true then 1 else 0)+(if decide (low<2*left)=true then 1 else 0)
theorem J3c(s:Int):(if(0:Int)>s then 0 else s)=((s.toNat:Nat):Int):=by
 by_cases h:(0:Int)>s
 . rw[if_pos h];omega
 rw[if_neg h];omega
noncomputable def A0x (t b s:Int):Prop:=b*C7 (-s)<=t*C7 s/\t*C7 s<10*(b*C7 (-s))
theorem B1k{s r:Int}(h:s<=r):C7 r*C7 (-s)=C7 s*C7 (-r)*C7 (r-s):=by
 have ad:∀{a b c:Int},0<=a ->0<=b ->c=a+b ->C7 c=C7 a*C7 b:=fun ha hb e=>by
   subst e
   unfold C7
   rw[Int.toNat_add ha hb,Nat.pow_add]
   exact Int.natCast_mul _ _
 have z:∀{a:Int},a<=0 ->C7 a=1:=fun h=>by
   unfold C7
   rw[Int.toNat_of_nonpos h]
   rfl
 rcases Int.le_total 0 s with hs|hs
 . rw[z (a:= -s) (by omega),z (a:= -r) (by omega),Int.mul_one,Int.mul_one]
   exact ad hs (by omega) (by omega)
 rcases Int.le_total 0 r with hr|hr
 . rw[z hs,z (a:= -r) (by omega),Int.one_mul,Int.one_mul]
   exact(ad hr (by omega) (by omega)).symm
 rw[z hr,z hs,Int.one_mul,Int.one_mul]
 exact ad (by omega) (by omega) (by omega)
theorem G1f{d:Int}(h:1<=d):10<=C7 d:=by
 unfold C7
 have:10^1<=10^d.toNat:=Nat.pow_le_pow_right (by decide) (by omega)
 omega
theorem A7n{a b:Int}(h:a<=b):C7 a<=C7 b:=by
 unfold C7
 exact Int.ofNat_le.mpr (Nat.pow_le_pow_right (by decide) (by omega))
theorem C4f{t b s r:Int}(hb:0<b)(h1:A0x t b s)(h2:A0x t b r):r<=s:=by
 apply Classical.byContradiction
 intro h
 have hs:s<=r:=by omega
 have c:=B1k hs
 have g:=G1f (d:=r-s) (by omega)
 have p1:=Y2 (-s)
 have p2:=Y2 (-r)
 have l1:0<b*C7 (-s):=Int.mul_pos hb p1
 have l2:0<b*C7 (-r):=Int.mul_pos hb p2
 have e:t*C7 r*(b*C7 (-s))=t*C7 s*(b*C7 (-r))*C7 (r-s):=by
   calc t*C7 r*(b*C7 (-s))=t*b*(C7 r*C7 (-s)):=by ac_rfl
     _=t*b*(C7 s*C7 (-r)*C7 (r-s)):=by rw[c]
     _=t*C7 s*(b*C7 (-r))*C7 (r-s):=by ac_rfl
 have a1:t*C7 r*(b*C7 (-s))<10*(b*C7 (-r))*(b*C7 (-s)):=Int.mul_lt_mul_of_pos_right h2.2 l1
 have hp:0<t*C7 s:=Int.lt_of_lt_of_le l1 h1.1
 have a2:t*C7 s*(b*C7 (-r))*10<=t*C7 s*(b*C7 (-r))*C7 (r-s):=Int.mul_le_mul_of_nonneg_left g (Int.le_of_lt (Int.mul_pos hp l2))
 have a3:b*C7 (-s)*(b*C7 (-r))<=t*C7 s*(b*C7 (-r)):=Int.mul_le_mul_of_nonneg_right h1.1 (Int.le_of_lt l2)
 have e2:10*(b*C7 (-r))*(b*C7 (-s))=b*C7 (-s)*(b*C7 (-r))*10:=by ac_rfl
 have a4:b*C7 (-s)*(b*C7 (-r))*10<=t*C7 s*(b*C7 (-r))*10:=Int.mul_le_mul_of_nonneg_right a3 (by decide)
 rw[e] at a1
 rw[e2] at a1
 exact absurd (Int.lt_of_lt_of_le a1 (Int.le_trans a4 a2)) (Int.lt_irrefl _)
theorem C4w{t b s r:Int}(hb:0<b)(h1:A0x t b s)(h2:A0x t b r):s=r:=Int.le_antisymm (C4f hb h2 h1) (C4f hb h1 h2)
noncomputable def Sz (t:Int):Prop:=1<=t/\t<C7 1000
theorem C3r(n:Nat):10^n<=2^(4*n):=by
 rw[Nat.pow_mul]
 exact Nat.pow_le_pow_left (by decide) n
theorem C8t(n:Nat):10^(3*n)<=2^(10*n):=by
 rw[Nat.pow_mul,Nat.pow_mul]
 exact Nat.pow_le_pow_left (by decide) n
theorem Sz.nat{t:Int}(h:Sz t):∃n:Nat,t=(n:Int)/\1<=n/\n<10^1000:=by
 obtain⟨n,rfl⟩:=Int.eq_ofNat_of_zero_le (show 0<=t by have:=h.1;omega)
 exact⟨n,rfl,Int.ofNat_le.mp h.1,Int.ofNat_lt.mp h.2⟩
theorem B5m{t s:Int}(ht:Sz t)(h:s<=1500):∃n:Nat,t*C7 s=(n:Int)/\n<10^2502:=by
 obtain⟨n,rfl,_,hn⟩:=ht.nat
 refine⟨n*10^s.toNat,rfl,?_⟩
 have a:10^s.toNat<=10^1502:=Nat.pow_le_pow_right (by decide) (by omega)
 calc n*10^s.toNat<=n*10^1502:=Nat.mul_le_mul_left n a
   _<10^1000*10^1502:=Nat.mul_lt_mul_of_pos_right hn (Nat.pow_pos (by decide))
   _=10^2502:=by rw[<-Nat.pow_add]
theorem B7y{n:Nat}(h:n<10^2502):Builtin.Int.intBits (n:Int)<=2^20:=B0z (k:=4*2502) (Nat.lt_of_lt_of_le h (C3r 2502)) (by decide)
theorem D9p{t:Int}(h:Sz t):Builtin.Int.intBits t<=2^20:=by
 obtain⟨n,rfl,_,hn⟩:=h.nat
 exact B0z (k:=4*1000) (Nat.lt_of_lt_of_le hn (C3r 1000)) (by decide)
theorem C9j{t s:Int}(ht:Sz t)(h:s<=1500):IntMulOk t (C7 s):=IntMulOk.of_bits (D9p ht) (B3r (by omega))
theorem G6w{b s:Int}(hb:Sz b)(h:s<=1500):(b*C7 s).natAbs.log2<9000:=by
 obtain⟨n,e,hn⟩:=B5m hb h
 rw[e]
 have:n<2^8340:=Nat.lt_of_lt_of_le hn (C8t 834)
 exact Nat.lt_trans (A3p (i:=(n:Int)) (k:=8340) (by rw[Int.natAbs_natCast];exact this) (by decide)) (by decide)
noncomputable def whI (t b s:Int):Int:=t*C7 s/(b*C7 (-s))
noncomputable def ptI (t b s:Int):Int:=A5z (t*C7 s-whI t b s*(b*C7 (-s))) (b*C7 (-s))
theorem G0p{t b s:Int}(hb:0<b):0<=t*C7 s-whI t b s*(b*C7 (-s))/\t*C7 s-whI t b s*(b*C7 (-s))<b*C7 (-s):=by
 have l:=Int.mul_pos hb (Y2 (-s))
 have e:=Int.emod_add_mul_ediv (t*C7 s) (b*C7 (-s))
 have a:=Int.emod_nonneg (t*C7 s) (Int.ne_of_gt l)
 have c:=Int.emod_lt_of_pos (t*C7 s) l
 have e2:whI t b s*(b*C7 (-s))=b*C7 (-s)*(t*C7 s/(b*C7 (-s))):=Int.mul_comm _ _
 omega
theorem J3a{t b s:Int}(ht:Sz t)(hb:Sz b)(h1: -1500<=s)(h2:s<=1500):IntMulOk (whI t b s) (b*C7 (-s)):=by
 obtain⟨n,e,hn⟩:=B5m hb (s:= -s) (by omega)
 obtain⟨k,e',hk⟩:=B5m ht h2
 unfold whI
 rw[e,e']
 exact IntMulOk.of_bits (B7y (Nat.lt_of_le_of_lt (Nat.div_le_self k n) hk)) (B7y hn)
noncomputable abbrev A3h:Stmt:=(G4 (top 26) 0)
structure B9y(K:Frag)(mg:Str ->Option Value)(CR CE:Addr):Prop where
 g:mg "Ratio"=some (.ref CR)
 ge:mg "Exact"=some (.ref CE)
 cl:Cls K CR
 n_top:Z0 K CR "top"
 n_bottom:Z0 K CR "bottom"
 n_power:Z0 K CR "power"
 ca:findIn K (.ref CR) "__class__"=some (some (.builtin "object.__class__"))
 sn:specialIn K (.builtin "object.__class__") "__get__"=some (some (.builtin "getset_descriptor.__get__"))
 tk:takesIn K (.builtin "object.__class__")=some true
 ob:mroIn K CR (.type "object")=some true
 up:kitOne K (.ref CR) (.ref CE)=some true
noncomputable def B7m (t b n:V):List (Str×V):=V7 "power" n (V7 "bottom" b (V7 "top" t []))
theorem B1y(t b n:V)(x:Str):(B7m t b n).lookup x=if x="power" then some n else if x="bottom" then some b else if x="top" then some t else none:=by
 unfold B7m
 rw[G3,G3,G3]
 rfl
theorem C5q(t b n:V):(B7m t b n).lookup ("top":Str)=some t:=by rw[B1y,if_neg (by decide+kernel),if_neg (by decide+kernel),if_pos rfl]
theorem B1h(t b n:V):(B7m t b n).lookup ("bottom":Str)=some b:=by rw[B1y,if_neg (by decide+kernel),if_pos rfl]
theorem B4e(t b n:V):(B7m t b n).lookup ("power":Str)=some n:=by rw[B1y,if_pos rfl]
theorem A6t(t b n:V):(B7m t b n).lookup ("first":Str)=none:=by rw[B1y,if_neg (by decide+kernel),if_neg (by decide+kernel),if_neg (by decide+kernel)]
theorem B4s(t b n:V):(B7m t b n).lookup ("at":Str)=none:=by rw[B1y,if_neg (by decide+kernel),if_neg (by decide+kernel),if_neg (by decide+kernel)]
noncomputable def A8m (CR:Addr) (H:Hp) (x:Addr) (t b n:Int):Prop:=∃dx,H x=some (.ins CR dx (B7m (.int t) (.int b) (.int n)))
theorem A8m.same{CR:Addr}{H H':Hp}{x:Addr}{t b n:Int}(h:A8m CR H x t b n)(s:B5 H H'):A8m CR H' x t b n:=by
 obtain⟨dx,e⟩:=h
 exact⟨dx,s _ _ e⟩
noncomputable def B5v (CR:Addr):Sp:=fun vs H Q _=>∃(p dx:Addr) (t b n:V),vs=[.ref p,t,b,n]/\H p=some (.ins CR dx [])/\∀H',H' p=some (.ins CR dx (B7m t b n)) ->Exc p H H' ->Q .non H'
theorem G0c:B0 Q16 Q16 (A4 A3h):=scK
theorem D3n{f CR CE:Addr}{dV:Value}(F:D4f K "__init__" "Ratio.__init__" A3h dV f fd)(R:B9y K mg CR CE):sI P w K mg base 1 f fd Q16 (B5v CR):=by
 refine F.okE G0c (fun vs H Q E h=>?_) (fun X cdv A outer s H vs Q E hX hr hx h=>?_)
 . obtain⟨p,dx,a,b,c,rfl,_⟩:=h
   rfl
 subst hX
 obtain⟨p,dx,a,b,c,rfl,hp,k⟩:=h
 refine⟨_,(A2 (Z6 (pv 0) (pv 1) rfl) (A2 (Z6 (pv 0) (pv 2) rfl) (A5 (Z6 (pv 0) (pv 3) rfl)))),?_⟩
 have l:∀(fs:List (Str×V)) (f:Str) (v:V) (n:Nat),fs.length<=n ->(V7 f v fs).length<=n+1:=fun fs f v n h=>Nat.le_trans (A1h f v fs) (Nat.succ_le_succ h)
 refine⟨_,rfl,_,rfl,p,CR,dx,[],rfl,hp,R.cl,R.n_top,(by show 0<1000;decide),?_⟩
 refine⟨_,rfl,_,rfl,p,CR,dx,_,rfl,A6,R.cl,R.n_bottom,Nat.lt_of_le_of_lt (l _ _ _ 0 (Nat.le_refl _)) (by decide),?_⟩
 refine⟨_,rfl,_,rfl,p,CR,dx,_,rfl,A6,R.cl,R.n_power,Nat.lt_of_le_of_lt (l _ _ _ 1 (l _ _ _ 0 (Nat.le_refl _))) (by decide),?_⟩
 refine k _ A6 fun b o e hb=>?_
 rw[C9 hb,C9 hb,C9 hb]
 exact e
noncomputable def B8f (CR:Addr):Sp:=fun vs H Q _=>∃x t b n,vs=[.ref x]/\A8m CR H x t b n/\Sz t/\Sz b/\∀f H',B5 H H' ->A0x t b (n-f) ->Q (.int f) H'
noncomputable def C9s (CR:Addr):Sp:=fun vs H Q _=>∃x t b n p,vs=[.ref x,.int p]/\A8m CR H x t b n/\Sz t/\Sz b/\ -1500<=n-p/\n-p<=1500/\
 ∀q H',B5 H H' ->H q=none ->H' q=some (.tup [.int (whI t b (n-p)),.int (ptI t b (n-p))]) ->Q (.ref q) H'
structure D4h(P:Program)(w:World)(K:Frag)(mg:Str ->Option Value)(base:Heap)(CR fI:Addr)(fdI:FuncData)(d0:Value)(gP:List Value ->List Value ->List Value)(vP:List V ->List V ->List V):Prop where
 m:Mk K CR fI
 g:sI P w K mg base 1 fI fdI Q16 (B5v CR)
 b3:Binds K fdI Q16 []
 b2:Binds K fdI Q16 [d0]
 r0:U4 (.int 0) d0
 kP:G8z K fdI Q16 ["power"] gP vP
 eP:∀x a b c,vP [x,a,b] [c]=[x,a,b,c]
structure G8y(P:Program)(w:World)(K:Frag)(mg:Str ->Option Value)(base:Heap)(CR f1 f2:Addr)(fd1 fd2:FuncData):Prop where
 m1:B3p K CR "first" f1
 g1:sI P w K mg base 4 f1 fd1 ["self"] (B8f CR)
 b1:Binds K fd1 ["self"] []
 m2:B3p K CR "at" f2
 g2:sI P w K mg base 3 f2 fd2 Q24 (C9s CR)
 b2:Binds K fd2 Q24 []
theorem C8y{CR x dx:Addr}{H:Hp}{Q:VK}{E:XK}{t b n:Int}(n1:H x=none)(n2:H dx=none)(ne:dx≠x)(k:∀H',B5 H H' ->A8m CR H' x t b n ->Q .non H'):
   B5v CR [.ref x,.int t,.int b,.int n] (upd (upd H dx (.own x)) x (.ins CR dx [])) Q E:=
 ⟨x,dx,_,_,_,rfl,A6,fun H' e s=>k H' (fun c o z=>s c o (by rw[C9 (D5 z n1),C9 (D5 z n2)];exact z) (D5 z n1)) ⟨dx,e⟩⟩
noncomputable abbrev B1d:Stmt:=(top 28)
noncomputable def B9b:Sp:=fun vs H Q _=>∃l m:Int,vs=[.int (2*l),.int m]/\0<=l/\0<m/\Q (.int (A5z l m)) H
theorem C9h:B0 Q25 Q25 (A4 B1d):=scK
theorem G0s{m:Int}(hm:0<m):A5z 0 m=0:=by
 unfold A5z
 rw[decide_eq_false (by omega:¬(0:Int)<0),decide_eq_false (by omega:¬m<=2*0),decide_eq_false (by omega:¬m<2*0)]
 rfl
theorem G0m{l m:Int}(hl:0<l)(h:2*l<m):A5z l m=1:=by
 unfold A5z
 rw[decide_eq_true hl,decide_eq_false (by omega:¬m<=2*l),decide_eq_false (by omega:¬m<2*l)]
 rfl
theorem G2k{l m:Int}(hl:0<l)(h:2*l=m):A5z l m=2:=by
 unfold A5z
 rw[decide_eq_true hl,decide_eq_true (by omega:m<=2*l),decide_eq_false (by omega:¬m<2*l)]
 rfl
theorem G2z{l m:Int}(hl:0<l)(h:m<2*l):A5z l m=3:=by
 unfold A5z
 rw[decide_eq_true hl,decide_eq_true (by omega:m<=2*l),decide_eq_true h]
 rfl
theorem C7v(D:Def K mg "part_of" Q25 B1d f fd):sI P w K mg base 1 f fd Q25 B9b:=by
 refine A9.up (D.F.ok C9h (fun vs H Q E h=>?_) (fun cdv A outer s H vs Q E hr h=>?_))
 . obtain⟨l,m,rfl,_⟩:=h
   rfl
 obtain⟨l,m,rfl,hl,hm,k⟩:=h
 refine⟨_,(A2 (D7 (B9 D9 (pv 0) A7 (C0 _)) (A5 (A8 A7)) C6) (A2 (D7 (B9 B8x (pv 0) (pv 1) (C0 _)) (A5 (A8 A7)) C6) (A5 (A8 (U1 (B9 D9 (pv 0) (pv 1) (C0 _)) A7 A7))))),?_⟩
 refine⟨_,rfl,rfl,_,rfl,U6 (fun h0=>?_) (fun h0=>?_)⟩
 . have e:l=0:=by
     have:2*l=0:=by injection h0
     omega
   subst e
   rw[G0s hm] at k
   exact k
 have hl':0<l:=by
   apply Classical.byContradiction
   intro z
   exact h0 (by rw[show l=0 by omega];rfl)
 refine⟨_,rfl,_,rfl,_,_,rfl,rfl,_,rfl,U6 (fun h1=>?_) (fun h1=>?_)⟩
 . rw[G0m hl' h1] at k
   exact k
 refine⟨_,rfl,_,rfl,rfl,_,rfl,U6 (fun h2=>?_) (fun h2=>?_)⟩
 . rw[G2k hl' (by injection h2)] at k
   exact k
 rw[G2z hl' (by
   have:2*l≠m:=fun z=>h2 (by rw[z])
   omega)] at k
 exact k
noncomputable abbrev B1t:Stmt:=(top 29)
theorem C0r(k:Nat):10^(k*301029995/10^9)<=2^k:=by
 have hm:k*301029995/10^9*28738<=k*8651:=by
   have:k*301029995/10^9*10^9<=k*301029995:=Nat.div_mul_le_self _ _
   omega
 generalize k*301029995/10^9=m at hm
 have c:(10:Nat)^8651<=2^28738:=by decide+kernel
 have a:(10^m)^8651<=(2^k)^8651:=by
   calc (10^m)^8651=(10^8651)^m:=by rw[<-Nat.pow_mul, <-Nat.pow_mul,Nat.mul_comm]
     _<=(2^28738)^m:=Nat.pow_le_pow_left c m
     _=2^(m*28738):=by rw[<-Nat.pow_mul,Nat.mul_comm]
     _<=2^(k*8651):=Nat.pow_le_pow_right (by decide) hm
     _=(2^k)^8651:=by rw[<-Nat.pow_mul]
 exact(Nat.pow_le_pow_iff_left (by decide)).mp a
noncomputable def C3y:Sp:=fun vs H Q _=>∃n:Nat,vs=[.int (n:Int)]/\1<=n/\n<10^3000/\∀L:Nat,10^L<=n ->n<10^(L+1) ->Q (.int (L:Int)) H
theorem scWLead:B0 ["whole","lead","beyond"] ["whole"] (A4 B1t):=scK
theorem D2v(D:Def K mg "whole_lead" ["whole"] B1t f fd)(dA:Def K mg "ten_to" ["count"] A3t f1 fd1)(dB:sI P w K mg base 2 f1 fd1 ["count"] A5f):sI P w K mg base 3 f fd ["whole"] C3y:=by
 refine A9.up (D.F.ok scWLead (fun vs H Q E h=>?_) (fun cdv A outer s H vs Q E hr h=>?_))
 . obtain⟨n,rfl,_⟩:=h
   rfl
 obtain⟨n,rfl,n1,n2,k⟩:=h
 have hx:G7 (A0v CX0 P w K mg base ["whole","lead","beyond"] "whole_lead" (A4 B1t) f cdv A outer s H E).nox EKF:=Y8
 refine⟨_,(A2 (B7 (D3 (i:=1) scWLead.nd rfl (Or.inl rfl) (D4 A0n (D4 Z7 (D4 A0k (D3z PySem.F.plainAttrs_int PySem.F.slot_int_bit_length PySem.F.type_int_bit_length B3g (pv 0)) A7) A7) (D4 D1a A7 A7)))) (A2 (B7 (D3 (i:=2) scWLead.nd rfl (Or.inl rfl) (C8 dA dB hr hx (A0 (D4 A0w (pv 1) A7) A1)))) (A2 (B7 (B2w PassesOwn.never (B9 D1c (pv 2) (pv 0) (C0 _)) (A2 (G5f (i:=1) scWLead.nd rfl (Or.inl rfl) A7 G7t) (A5 (D3 (i:=2) scWLead.nd rfl (Or.inl rfl) (D4 Z7 (pv 2) A7)))))) (A5 (A8 (pv 1)))))),?_⟩
 have mC:∀z n:Int, -(2^64)<n ->n<2^64 ->IntMulOk z n:=fun z n a b=>B7p.ok (.inr ⟨a,b⟩)
 have pw:G5j 10 9:=⟨by decide,by decide,by decide⟩
 have l3:∀{L:Nat},10^L<=n ->L<3000:=fun hL=>(Nat.pow_lt_pow_iff_right (by decide:1<10)).mp (Nat.lt_of_le_of_lt hL n2)
 refine⟨fun σ H'=>H'=H/\∃L:Nat,10^L<=n/\σ=[si (n:Int),si (L:Int),none],?_,?_⟩
 . refine⟨_,rfl,rfl,_,rfl,rfl,_,_,rfl,rfl,_,_,rfl,rfl,mC _ _ (by decide) (by decide),_,_,rfl,rfl,pw,_,_,rfl,rfl,⟨by decide,by decide+kernel⟩,rfl,n.log2*301029995/10^9,?_,?_⟩
   . exact Nat.le_trans (C0r _) (Nat.log2_self_le (by omega))
   . have e:(Builtin.Int.intBits (n:Int):Nat)=n.log2+1:=by
       unfold Builtin.Int.intBits
       rw[if_neg (by simp;omega)]
       rfl
     show [si (n:Int),si ((((Builtin.Int.intBits (n:Int):Nat):Int)-1)*301029995/(10^Int.toNat 9:Int)),none]=_
     rw[e,show((n.log2+1:Nat):Int)-1=(n.log2:Int) by omega]
     rfl
 rintro σ H' ⟨rfl,L0,hL0,rfl⟩
 refine⟨fun σ H2=>H2=H'/\∃L:Nat,10^L<=n/\σ=[si (n:Int),si (L:Int),si ((10^(L+1):Nat):Int)],?_,?_⟩
 . have:=l3 hL0
   exact⟨_,rfl,_,_,rfl,rfl,L0+1,rfl,by omega,rfl,L0,hL0,rfl⟩
 rintro σ H2 ⟨rfl,L1,hL1,rfl⟩
 refine⟨fun σ H3=>H3=H2/\∃L:Nat,10^L<=n/\n<10^(L+1)/\σ=[si (n:Int),si (L:Int),si ((10^(L+1):Nat):Int)],?_,?_⟩
 . refine B2f (fun σ H3=>H3=H2/\∃L:Nat,10^L<=n/\σ=[si (n:Int),si (L:Int),si ((10^(L+1):Nat):Int)]) (fun σ _=>match σ with| [_,some (.int c),_]=>n-c.toNat|_=>0) ?_ ?_ ?_
   . exact⟨rfl,L1,hL1,rfl⟩
   . rintro σ H3 ⟨rfl,L,hL,rfl⟩
     refine⟨_,rfl,_,rfl,_,_,rfl,rfl,_,rfl,U6 (fun hle=>?_) (fun hgt=>?_)⟩
     . have hle:10^(L+1)<=n:=Int.ofNat_le.mp hle
       refine⟨_,rfl,_,_,rfl,rfl,_,rfl,_,_,rfl,rfl,mC _ _ (by decide) (by decide),⟨rfl,L+1,hle,?_⟩,?_⟩
       . show [si (n:Int),si ((L:Int)+1),si (((10^(L+1):Nat):Int)*10)]=_
         rw[show((10^(L+1):Nat):Int)*10=((10^(L+1+1):Nat):Int) by rw[Nat.pow_succ 10 (L+1)];rfl]
         rfl
       have lt:L+1<10^(L+1):=Nat.lt_pow_self (by decide)
       show n-((L:Int)+1).toNat<n-(L:Int).toNat
       omega
     . have hgt:¬10^(L+1)<=n:=fun z=>hgt (Int.ofNat_le.mpr z)
       exact⟨rfl,L,hL,by omega,rfl⟩
   . rintro σ H2 Q1 Q2 hQ ⟨v,e,v2,e4,i2,j2,e5,e6,b,e7,q⟩
     exact⟨v,e,v2,e4,i2,j2,e5,e6,b,e7,hQ _ _ q⟩
 rintro σ H3 ⟨rfl,L,h1,h2,rfl⟩
 exact⟨_,rfl,k L h1 h2⟩
noncomputable abbrev C4q:Stmt:=(G4 (top 26) 2)
noncomputable abbrev A7a:Stmt:=(G4 (top 26) 1)
theorem scRAt:B0 Q45 Q24 (A4 C4q):=scK
theorem G8j{f f1 f2 CR CE:Addr}(F:Fun K "at" "Ratio.at" C4q f fd)(dA:Def K mg "ten_to" ["count"] A3t f1 fd1)(dB:sI P w K mg base 2 f1 fd1 ["count"] A5f)
   (dC:Def K mg "part_of" Q25 B1d f2 fd2) (dE:sI P w K mg base 1 f2 fd2 Q25 B9b) (R:B9y K mg CR CE) (O:Own mg):sI P w K mg base 3 f fd Q24 (C9s CR):=by
 refine A9.up (F.ok scRAt (fun vs H Q E h=>?_) (fun cdv A outer s H vs Q E hr h=>?_))
 . obtain⟨x,t,b,n,p,rfl,_⟩:=h
   rfl
 obtain⟨x,t,b,n,p,rfl,⟨dx,e⟩,ht,hb,h1,h2,k⟩:=h
 have hx:G7 (A0v CX0 P w K mg base Q45 "Ratio.at" (A4 C4q) f cdv A outer s H E).nox EKF:=Y8
 refine⟨_,(A2 (D3 (i:=2) scRAt.nd rfl (Or.inl rfl) (D4 A0k (D6 (pv 0) rfl) (pv 1))) (A2 (D3 (i:=3) scRAt.nd rfl (Or.inl rfl) (D4 Z7 (D6 (pv 0) rfl) (C8 dA dB hr hx (A0 (U2 (A5d rfl) (by rfl) O.max_ boot_max (A0 (pv 2) (A0 A7 A1))) A1)))) (A2 (D3 (i:=4) scRAt.nd rfl (Or.inl rfl) (D4 Z7 (D6 (pv 0) rfl) (C8 dA dB hr hx (A0 (U2 (A5d rfl) (by rfl) O.max_ boot_max (A0 (A5w A2p (pv 2)) (A0 A7 A1))) A1)))) (A2 (D3 (i:=5) scRAt.nd rfl (Or.inl rfl) (D4 A0n (pv 3) (pv 4))) (A5 (A8 (G6 (A0 (pv 5) (A0 (C8 dC dE hr hx (A0 (D4 Z7 A7 (D4 A0k (pv 3) (D4 Z7 (pv 5) (pv 4)))) (A0 (pv 4) A1))) A1))))))))),?_⟩
 have z2:2<=sizeLine:=B8 (by decide)
 have mC':∀z n:Int, -(2^64)<n ->n<2^64 ->IntMulOk n z:=fun z n a b=>B7p.ok (.inl ⟨a,b⟩)
 have hb0:0<b:=by have:=hb.1;omega
 refine⟨_,rfl,x,CR,dx,_,_,rfl,e,R.cl,R.n_power,B4e _ _ _,_,rfl,_,_,rfl,rfl,?_⟩
 refine⟨_,rfl,x,CR,dx,_,_,rfl,e,R.cl,R.n_top,C5q _ _ _,_,rfl,_,_,rfl,(n-p).toNat,congrArg (fun z=>[V.int z]) (J3c (n-p)),by omega,_,_,rfl,rfl,C9j ht h2,?_⟩
 refine⟨_,rfl,x,CR,dx,_,_,rfl,e,R.cl,R.n_bottom,B1h _ _ _,_,rfl,_,rfl,_,_,rfl,(-(n-p)).toNat,congrArg (fun z=>[V.int z]) (J3c (-(n-p))),by omega,_,_,rfl,rfl,C9j hb (by omega),?_⟩
 have lp:0<b*C7 (-(n-p)):=Int.mul_pos hb0 (Y2 _)
 have ll:(b*C7 (-(n-p))).natAbs.log2<9000:=G6w hb (by omega)
 refine⟨_,rfl,_,rfl,_,_,rfl,rfl,⟨lp,ll⟩,?_⟩
 have lf:=G0p (t:=t) (s:=n-p) hb0
 refine⟨_,rfl,_,rfl,_,rfl,_,rfl,_,_,rfl,rfl,J3a ht hb h1 h2,_,_,rfl,rfl,_,_,rfl,rfl,mC' _ _ (by decide) (by decide),_,rfl,_,_,rfl,lf.1,lp,z2,fun q nq=>k q _ (B5.upd nq) nq A6⟩
theorem G7j{t b L M u v:Nat}(h:L+u=M+v)(t2:t<10^(L+1))(b1:10^M<=b):t*10^u<10*(b*10^v):=by
 have p:0<10^u:=Nat.pow_pos (by decide)
 calc t*10^u<10^(L+1)*10^u:=Nat.mul_lt_mul_of_pos_right t2 p
   _=10*(10^M*10^v):=by rw[<-Nat.pow_add, <-Nat.pow_add, <-h,show L+1+u=(L+u)+1 by omega,Nat.pow_succ,Nat.mul_comm]
   _<=10*(b*10^v):=Nat.mul_le_mul_left 10 (Nat.mul_le_mul_right _ b1)
theorem G7s{t b L M u v:Nat}(h:L+u=M+1+v)(t1:10^L<=t)(b2:b<10^(M+1)):b*10^v<=t*10^u:=by
 calc b*10^v<=10^(M+1)*10^v:=Nat.mul_le_mul_right _ (Nat.le_of_lt b2)
   _=10^L*10^u:=by rw[<-Nat.pow_add, <-Nat.pow_add,h]
   _<=t*10^u:=Nat.mul_le_mul_right _ t1
theorem C6u{t b L M:Nat}(t1:10^L<=t)(t2:t<10^(L+1))(b1:10^M<=b)(b2:b<10^(M+1))(h:(b:Int)*C7 (-((M:Int)-L))<=(t:Int)*C7 ((M:Int)-L)):A0x t b ((M:Int)-L):=by
 refine⟨h,?_⟩
 unfold C7
 have:=G7j (t:=t) (b:=b) (L:=L) (M:=M) (u:=((M:Int)-L).toNat) (v:=(-((M:Int)-L)).toNat) (by omega) t2 b1
 exact Int.ofNat_lt.mpr this
theorem C1c{t b L M:Nat}(t1:10^L<=t)(t2:t<10^(L+1))(b1:10^M<=b)(b2:b<10^(M+1))(h:(t:Int)*C7 ((M:Int)-L)<(b:Int)*C7 (-((M:Int)-L))):A0x t b ((M:Int)-L+1):=by
 refine⟨?_,?_⟩
 . unfold C7
   have:=G7s (t:=t) (b:=b) (L:=L) (M:=M) (u:=((M:Int)-L+1).toNat) (v:=(-((M:Int)-L+1)).toNat) (by omega) t1 b2
   exact Int.ofNat_le.mpr this
 have hb:0<(b:Int):=by
   have:0<10^M:=Nat.pow_pos (by decide)
   omega
 generalize (M:Int)-L=s at h
 have c:=B1k (s:=s) (r:=s+1) (by omega)
 have e1:C7 (s+1-s)=10:=by rw[show s+1-s=1 by omega];rfl
 rw[e1] at c
 have l:=Int.mul_pos hb (Y2 (-s))
 have l':=Int.mul_pos hb (Y2 (-(s+1)))
 have e:(t:Int)*C7 (s+1)*((b:Int)*C7 (-s))=(t:Int)*C7 s*((b:Int)*C7 (-(s+1)))*10:=by
   calc (t:Int)*C7 (s+1)*((b:Int)*C7 (-s))=t*b*(C7 (s+1)*C7 (-s)):=by ac_rfl
     _=t*b*(C7 s*C7 (-(s+1))*10):=by rw[c]
     _=(t:Int)*C7 s*((b:Int)*C7 (-(s+1)))*10:=by ac_rfl
 have a:(t:Int)*C7 s*((b:Int)*C7 (-(s+1)))<(b:Int)*C7 (-s)*((b:Int)*C7 (-(s+1))):=Int.mul_lt_mul_of_pos_right h l'
 have a2:(t:Int)*C7 (s+1)*((b:Int)*C7 (-s))<10*((b:Int)*C7 (-(s+1)))*((b:Int)*C7 (-s)):=by
   rw[e,show 10*((b:Int)*C7 (-(s+1)))*((b:Int)*C7 (-s))=(b:Int)*C7 (-s)*((b:Int)*C7 (-(s+1)))*10 by ac_rfl]
   exact Int.mul_lt_mul_of_pos_right a (by decide)
 exact Int.lt_of_mul_lt_mul_right a2 (Int.le_of_lt l)
theorem scRFirst:B0 ["self","guess"] ["self"] (A4 A7a):=scK
theorem C8d{f f1 f2 CR CE:Addr}(F:Fun K "first" "Ratio.first" A7a f fd)(dA:Def K mg "whole_lead" ["whole"] B1t f1 fd1)(dB:sI P w K mg base 3 f1 fd1 ["whole"] C3y)
   (MA:B3p K CR "at" f2) (GA:sI P w K mg base 3 f2 fd2 Q24 (C9s CR)) (BA:Binds K fd2 Q24 []) (R:B9y K mg CR CE):sI P w K mg base 4 f fd ["self"] (B8f CR):=by
 refine A9.up (F.ok scRFirst (fun vs H Q E h=>?_) (fun cdv A outer s H vs Q E hr h=>?_))
 . obtain⟨x,t,b,n,rfl,_⟩:=h
   rfl
 obtain⟨x,t,b,n,rfl,ra,ht,hb,k⟩:=h
 have hx:G7 (A0v CX0 P w K mg base ["self","guess"] "Ratio.first" (A4 A7a) f cdv A outer s H E).nox EKF:=Y8
 refine⟨_,(A2 (D3 (i:=1) scRFirst.nd rfl (Or.inl rfl) (D4 A0w (D4 A0k (C8 dA dB hr hx (A0 (D6 (pv 0) rfl) A1)) (C8 dA dB hr hx (A0 (D6 (pv 0) rfl) A1))) (D6 (pv 0) rfl))) (A5 (A8 (U1 (B9 A8c (V3 A0h (A4g (pv 0) R.cl MA GA hr BA .nil hx (A0 (pv 1) A1)) A7 (fun _ _=>rfl)) A7 (C0 _)) (pv 1) (D4 A0k (pv 1) A7))))),?_⟩
 obtain⟨tn,rfl,ta,tb⟩:=ht.nat
 obtain⟨bn,rfl,ba,bb⟩:=hb.nat
 obtain⟨dx,e⟩:=id ra
 have p30:(10:Nat)^1000<10^3000:=Nat.pow_lt_pow_right (by decide) (by decide)
 have p30':∀{L m:Nat},10^L<=m ->m<10^1000 ->L<1000:=fun h1 h2=>(Nat.pow_lt_pow_iff_right (by decide:1<10)).mp (Nat.lt_of_le_of_lt h1 h2)
 refine⟨_,rfl,x,CR,dx,_,_,rfl,e,R.cl,R.n_top,C5q _ _ _,tn,rfl,ta,Nat.lt_trans tb p30,fun L L1 L2=>?_⟩
 refine⟨_,rfl,x,CR,dx,_,_,rfl,e,R.cl,R.n_bottom,B1h _ _ _,bn,rfl,ba,Nat.lt_trans bb p30,fun M' M1 M2=>?_⟩
 have l30:=p30' L1 tb
 have m30:=p30' M1 bb
 refine⟨_,_,rfl,rfl,_,rfl,x,CR,dx,_,_,rfl,e,R.cl,R.n_power,B4e _ _ _,_,_,rfl,rfl,?_⟩
 have es:n-((L:Int)-M'+n)=(M':Int)-L:=by omega
 refine⟨_,rfl,x,dx,_,rfl,e,B4s _ _ _,_,rfl,x,tn,bn,n,_,rfl,ra,ht,hb,by omega,by omega,fun q H1 s1 nq hq=>?_⟩
 rw[es] at hq
 refine⟨q,_,0,_,rfl,rfl,SqT.of hq,G5 (j:=0) rfl,_,_,rfl,rfl,_,rfl,?_⟩
 have lp:0<(bn:Int)*C7 (-((M':Int)-L)):=Int.mul_pos (by omega) (Y2 _)
 refine U6 (fun hg=>?_) (fun hg=>?_)
 . have hle:(bn:Int)*C7 (-((M':Int)-L))<=(tn:Int)*C7 ((M':Int)-L):=by
     have:=(Int.le_ediv_iff_mul_le lp).mp (show(1:Int)<=(tn:Int)*C7 ((M':Int)-L)/((bn:Int)*C7 (-((M':Int)-L))) from hg)
     omega
   refine⟨_,rfl,k _ H1 s1 ?_⟩
   rw[es]
   exact C6u L1 L2 M1 M2 hle
 have hlt:(tn:Int)*C7 ((M':Int)-L)<(bn:Int)*C7 (-((M':Int)-L)):=by
   apply Classical.byContradiction
   intro z
   exact hg ((Int.le_ediv_iff_mul_le lp).mpr (by omega))
 refine⟨_,rfl,_,_,rfl,rfl,k _ H1 s1 ?_⟩
 rw[show n-((L:Int)-M'+n-1)=(M':Int)-L+1 by omega]
 exact C1c L1 L2 M1 M2 hlt
inductive Wy where
 |down
 |up
 |floor
 |ceiling
 |halfUp
 |halfDown
 |halfEven
 |fiveUp
noncomputable def Wy.name:Wy ->Str
 | .down=>"down"
 | .up=>"up"
 | .floor=>"floor"
 | .ceiling=>"ceiling"
 | .halfUp=>"half up"
 | .halfDown=>"half down"
 | .halfEven=>"half even"
 | .fiveUp=>"five up"
noncomputable def Wy.cls:Wy ->Str
 | .down=>"Down"
 | .up=>"Up"
 | .floor=>"Floor"
 | .ceiling=>"Ceiling"
 | .halfUp=>"HalfUp"
 | .halfDown=>"HalfDown"
 | .halfEven=>"HalfEven"
 | .fiveUp=>"FiveUp"
theorem Wy.inj{a b:Wy}(h:a.name=b.name):a=b:=by
 cases a<;>cases b<;>first|rfl|exact absurd h (by decide+kernel)
structure B0m(K:Frag)(mg:Str ->Option Value)(x:Str)(C CW:Addr):Prop where
 g:mg x=some (.ref C)
 cl:Cls K C
 mk0:Mk0 K C
 ca:findIn K (.ref C) "__class__"=some (some (.builtin "object.__class__"))
 sn:specialIn K (.builtin "object.__class__") "__get__"=some (some (.builtin "getset_descriptor.__get__"))
 tk:takesIn K (.builtin "object.__class__")=some true
 ob:mroIn K C (.type "object")=some true
 up:kitOne K (.ref C) (.ref CW)=some true
noncomputable def A3r (s:Str):Sp:=fun vs H Q _=>∃p,vs=[.ref p]/\Q (.str s) H
noncomputable def G2m (P:Program) (w:World) (K:Frag) (mg:Str ->Option Value) (base:Heap) (C:Addr) (s:Str):Prop:=Has P w K mg base C "name" 1 ["self"] (A3r s)
noncomputable abbrev sN0:Stmt:=(G4 (top 54) 0)
theorem J6n:B0 ["self"] ["self"] (A4 sN0):=scK
theorem J3p(F:Fun K "name" "Down.name" sN0 f fd):sI P w K mg base 1 f fd ["self"] (A3r "down"):=by
 refine A9.up (F.ok J6n (fun vs H Q E h=>?_) (fun cdv A outer s H vs Q E hr h=>?_))
 . obtain⟨p,rfl,_⟩:=h
   rfl
 obtain⟨p,rfl,k⟩:=h
 exact⟨_,A5 (A8 A3),k⟩
noncomputable abbrev sN1:Stmt:=(G4 (top 55) 0)
theorem J7x:B0 ["self"] ["self"] (A4 sN1):=scK
theorem J3s(F:Fun K "name" "Up.name" sN1 f fd):sI P w K mg base 1 f fd ["self"] (A3r "up"):=by
 refine A9.up (F.ok J7x (fun vs H Q E h=>?_) (fun cdv A outer s H vs Q E hr h=>?_))
 . obtain⟨p,rfl,_⟩:=h
   rfl
 obtain⟨p,rfl,k⟩:=h
 exact⟨_,A5 (A8 A3),k⟩
noncomputable abbrev sN2:Stmt:=(G4 (top 56) 0)
theorem J6z:B0 ["self"] ["self"] (A4 sN2):=scK
theorem J3j(F:Fun K "name" "Floor.name" sN2 f fd):sI P w K mg base 1 f fd ["self"] (A3r "floor"):=by
 refine A9.up (F.ok J6z (fun vs H Q E h=>?_) (fun cdv A outer s H vs Q E hr h=>?_))
 . obtain⟨p,rfl,_⟩:=h
   rfl
 obtain⟨p,rfl,k⟩:=h
 exact⟨_,A5 (A8 A3),k⟩
noncomputable abbrev sN3:Stmt:=(G4 (top 57) 0)
theorem J6p:B0 ["self"] ["self"] (A4 sN3):=scK
theorem J2s(F:Fun K "name" "Ceiling.name" sN3 f fd):sI P w K mg base 1 f fd ["self"] (A3r "ceiling"):=by
 refine A9.up (F.ok J6p (fun vs H Q E h=>?_) (fun cdv A outer s H vs Q E hr h=>?_))
 . obtain⟨p,rfl,_⟩:=h
   rfl
 obtain⟨p,rfl,k⟩:=h
 exact⟨_,A5 (A8 A3),k⟩
noncomputable abbrev sN4:Stmt:=(G4 (top 58) 0)
theorem J7h:B0 ["self"] ["self"] (A4 sN4):=scK
theorem J3k(F:Fun K "name" "HalfUp.name" sN4 f fd):sI P w K mg base 1 f fd ["self"] (A3r "half up"):=by
 refine A9.up (F.ok J7h (fun vs H Q E h=>?_) (fun cdv A outer s H vs Q E hr h=>?_))
 . obtain⟨p,rfl,_⟩:=h
   rfl
 obtain⟨p,rfl,k⟩:=h
 exact⟨_,A5 (A8 A3),k⟩
noncomputable abbrev sN5:Stmt:=(G4 (top 59) 0)
theorem J6q:B0 ["self"] ["self"] (A4 sN5):=scK
theorem J3w(F:Fun K "name" "HalfDown.name" sN5 f fd):sI P w K mg base 1 f fd ["self"] (A3r "half down"):=by
 refine A9.up (F.ok J6q (fun vs H Q E h=>?_) (fun cdv A outer s H vs Q E hr h=>?_))
 . obtain⟨p,rfl,_⟩:=h
   rfl
 obtain⟨p,rfl,k⟩:=h
 exact⟨_,A5 (A8 A3),k⟩
noncomputable abbrev sN6:Stmt:=(G4 (top 60) 0)
theorem J6r:B0 ["self"] ["self"] (A4 sN6):=scK
theorem J4r(F:Fun K "name" "HalfEven.name" sN6 f fd):sI P w K mg base 1 f fd ["self"] (A3r "half even"):=by
 refine A9.up (F.ok J6r (fun vs H Q E h=>?_) (fun cdv A outer s H vs Q E hr h=>?_))
 . obtain⟨p,rfl,_⟩:=h
   rfl
 obtain⟨p,rfl,k⟩:=h
 exact⟨_,A5 (A8 A3),k⟩
noncomputable abbrev sN7:Stmt:=(G4 (top 61) 0)
theorem J8j:B0 ["self"] ["self"] (A4 sN7):=scK
theorem J4f(F:Fun K "name" "FiveUp.name" sN7 f fd):sI P w K mg base 1 f fd ["self"] (A3r "five up"):=by
 refine A9.up (F.ok J8j (fun vs H Q E h=>?_) (fun cdv A outer s H vs Q E hr h=>?_))
 . obtain⟨p,rfl,_⟩:=h
   rfl
 obtain⟨p,rfl,k⟩:=h
 exact⟨_,A5 (A8 A3),k⟩
noncomputable def G3w (K:Frag) (H:Hp) (v:V):Prop:=∃t b,TyE K H v t/\kitOne K t (.type "str")=some b/\(b=false\/∃z,v= .str z/\∀y:Wy,z≠y.name)
theorem A4s{C:Addr}{σ:L2.St}{H:Hp}{Q:VK}(k:∀p dx H',H p=none ->B5 H H' ->H' p=some (.ins C dx []) ->Q (.ref p) H'):G6t C σ H Q:=fun x dx n1 n2 ne=>
 k x dx _ n1 ((B5.upd n2).trans (B5.upd (by rw[C9 (Ne.symm ne)];exact n1))) A6
noncomputable abbrev B2v:Stmt:=(top 62)
noncomputable def B7c (K:Frag) (CB:Addr) (cw:Wy ->Addr):Sp:=fun vs H Q E=>∃v,vs=[v]/\((∃y:Wy,v= .str y.name/\∀p dx H',H p=none ->B5 H H' ->H' p=some (.ins (cw y) dx []) ->Q (.ref p) H')\/(G3w K H v/\E (.ref CB) none H))
theorem G1b:B0 ["name"] ["name"] (A4 B2v):=scK
theorem D1m{f CB CW:Addr}{cw:Wy ->Addr}(D:Def K mg "way_of" ["name"] B2v f fd)(O:Own mg)(T:Kit K)(B:Err K mg "BadContext" CB)(W:∀y:Wy,B0m K mg y.cls (cw y) CW):
   sI P w K mg base 1 f fd ["name"] (B7c K CB cw):=by
 refine D.F.okE G1b (fun vs H Q E h=>?_) (fun X cdv A outer s H vs Q E hX hr hx h=>?_)
 . obtain⟨v,rfl,_⟩:=h
   rfl
 subst hX
 obtain⟨v,rfl,h⟩:=h
 refine⟨_,(A2 (D7 (A1k (V8 (B9g O.isi (pv 0) (pty O.str_ boot_str)))) (A5 (Y7 (by rfl) B.g B.q PySem.F.excBase_ValueError hr.hd hx (A0 A3 A1))) C6) (A2 (D7 (B9 D9 (pv 0) A3 (C0 _)) (A5 (A8 (A4j (W .down).mk0 rfl (W .down).g))) C6) (A2 (D7 (B9 D9 (pv 0) A3 (C0 _)) (A5 (A8 (A4j (W .up).mk0 rfl (W .up).g))) C6) (A2 (D7 (B9 D9 (pv 0) A3 (C0 _)) (A5 (A8 (A4j (W .floor).mk0 rfl (W .floor).g))) C6) (A2 (D7 (B9 D9 (pv 0) A3 (C0 _)) (A5 (A8 (A4j (W .ceiling).mk0 rfl (W .ceiling).g))) C6) (A2 (D7 (B9 D9 (pv 0) A3 (C0 _)) (A5 (A8 (A4j (W .halfUp).mk0 rfl (W .halfUp).g))) C6) (A2 (D7 (B9 D9 (pv 0) A3 (C0 _)) (A5 (A8 (A4j (W .halfDown).mk0 rfl (W .halfDown).g))) C6) (A2 (D7 (B9 D9 (pv 0) A3 (C0 _)) (A5 (A8 (A4j (W .halfEven).mk0 rfl (W .halfEven).g))) C6) (A2 (D7 (B9 D9 (pv 0) A3 (C0 _)) (A5 (A8 (A4j (W .fiveUp).mk0 rfl (W .fiveUp).g))) C6) (A5 (Y7 (by rfl) B.g B.q PySem.F.excBase_ValueError hr.hd hx (A0 A3 A1)))))))))))),?_⟩
 have z1:1<=sizeLine:=B8 (by decide)
 rcases h with⟨y,rfl,k⟩|⟨⟨t,b,ty,kk,bad⟩,k⟩
 . refine⟨_,rfl,_,_,_,_,true,rfl,rfl,B4r _,T.str_str,_,rfl,V1 ?_⟩
   refine⟨_,rfl,rfl,_,rfl,U6 (fun e=>?_) (fun n0=>?_)⟩
   . have q:y= .down:=Wy.inj (V.str.inj (e:V.str y.name=V.str (Wy.name .down)))
     subst q
     exact A4s k
   refine⟨_,rfl,rfl,_,rfl,U6 (fun e=>?_) (fun n1=>?_)⟩
   . have q:y= .up:=Wy.inj (V.str.inj (e:V.str y.name=V.str (Wy.name .up)))
     subst q
     exact A4s k
   refine⟨_,rfl,rfl,_,rfl,U6 (fun e=>?_) (fun n2=>?_)⟩
   . have q:y= .floor:=Wy.inj (V.str.inj (e:V.str y.name=V.str (Wy.name .floor)))
     subst q
     exact A4s k
   refine⟨_,rfl,rfl,_,rfl,U6 (fun e=>?_) (fun n3=>?_)⟩
   . have q:y= .ceiling:=Wy.inj (V.str.inj (e:V.str y.name=V.str (Wy.name .ceiling)))
     subst q
     exact A4s k
   refine⟨_,rfl,rfl,_,rfl,U6 (fun e=>?_) (fun n4=>?_)⟩
   . have q:y= .halfUp:=Wy.inj (V.str.inj (e:V.str y.name=V.str (Wy.name .halfUp)))
     subst q
     exact A4s k
   refine⟨_,rfl,rfl,_,rfl,U6 (fun e=>?_) (fun n5=>?_)⟩
   . have q:y= .halfDown:=Wy.inj (V.str.inj (e:V.str y.name=V.str (Wy.name .halfDown)))
     subst q
     exact A4s k
   refine⟨_,rfl,rfl,_,rfl,U6 (fun e=>?_) (fun n6=>?_)⟩
   . have q:y= .halfEven:=Wy.inj (V.str.inj (e:V.str y.name=V.str (Wy.name .halfEven)))
     subst q
     exact A4s k
   refine⟨_,rfl,rfl,_,rfl,U6 (fun e=>?_) (fun n7=>?_)⟩
   . have q:y= .fiveUp:=Wy.inj (V.str.inj (e:V.str y.name=V.str (Wy.name .fiveUp)))
     subst q
     exact A4s k
   cases y with
   |down=>exact absurd rfl n0
   |up=>exact absurd rfl n1
   |floor=>exact absurd rfl n2
   |ceiling=>exact absurd rfl n3
   |halfUp=>exact absurd rfl n4
   |halfDown=>exact absurd rfl n5
   |halfEven=>exact absurd rfl n6
   |fiveUp=>exact absurd rfl n7
 refine⟨_,rfl,_,_,_,_,b,rfl,rfl,ty,kk,_,rfl,?_⟩
 cases b with
 |false=>exact Y1 ⟨z1,k⟩
 | true=>
   obtain⟨z,rfl,nz⟩:=bad.resolve_left (by decide)
   refine V1 ?_
   refine⟨_,rfl,rfl,_,rfl,U6 (fun e=>absurd (V.str.inj e) (nz .down)) (fun n0=>?_)⟩
   refine⟨_,rfl,rfl,_,rfl,U6 (fun e=>absurd (V.str.inj e) (nz .up)) (fun n1=>?_)⟩
   refine⟨_,rfl,rfl,_,rfl,U6 (fun e=>absurd (V.str.inj e) (nz .floor)) (fun n2=>?_)⟩
   refine⟨_,rfl,rfl,_,rfl,U6 (fun e=>absurd (V.str.inj e) (nz .ceiling)) (fun n3=>?_)⟩
   refine⟨_,rfl,rfl,_,rfl,U6 (fun e=>absurd (V.str.inj e) (nz .halfUp)) (fun n4=>?_)⟩
   refine⟨_,rfl,rfl,_,rfl,U6 (fun e=>absurd (V.str.inj e) (nz .halfDown)) (fun n5=>?_)⟩
   refine⟨_,rfl,rfl,_,rfl,U6 (fun e=>absurd (V.str.inj e) (nz .halfEven)) (fun n6=>?_)⟩
   refine⟨_,rfl,rfl,_,rfl,U6 (fun e=>absurd (V.str.inj e) (nz .fiveUp)) (fun n7=>?_)⟩
   exact⟨z1,k⟩
noncomputable def A1j:List Str:=["void","split","burst","sunk","faint","off","cut"]
noncomputable def C2v:List V:=A1j.map V.str
structure G8x(K:Frag)(mg:Str ->Option Value)(aS:Addr):Prop where
 g:mg "SIGNALS"=some (.ref aS)
 ty:∃o,K.lookup aS=some o/\o.cls= .type "tuple"
 sq:∀H,SqT K H aS C2v
noncomputable abbrev B2t:Stmt:=(top 67)
noncomputable def J7m (K:Frag) (H:Hp) (x:V):Prop:=∃t b,TyE K H x t/\kitOne K t (.type "str")=some b/\(b=false\/∃z,x= .str z/\z ∉ A1j)
noncomputable def C0m (K:Frag) (H:Hp) (v:V):Prop:=(∃t,TyE K H v t/\kitOne K t (.type "list")=some false)\/(∃(p:Addr) (zs:List Str) (x:V) (r:List V),v= .ref p/\H p=some (.lst (zs.map V.str++x::r))/\(∀z∈zs,z∈A1j)/\J7m K H x)
noncomputable def B6u (K:Frag) (CB:Addr):Sp:=fun vs H Q E=>∃v,vs=[v]/\((∃(p:Addr) (zs:List Str),v= .ref p/\H p=some (.lst (zs.map V.str))/\(∀z∈zs,z∈A1j)/\Q .non H)\/(C0m K H v/\E (.ref CB) none H))
theorem scNeedS:B0 ["names","name"] ["names"] (A4 B2t):=scK
theorem D4e{f CB aS:Addr}(D:Def K mg "need_signals" ["names"] B2t f fd)(O:Own mg)(T:Kit K)(B:Err K mg "BadContext" CB)(SG:G8x K mg aS):sI P w K mg base 1 f fd ["names"] (B6u K CB):=by
 refine D.F.okE scNeedS (fun vs H Q E h=>?_) (fun X cdv A outer s H vs Q E hX hr hx h=>?_)
 . obtain⟨v,rfl,_⟩:=h
   rfl
 subst hX
 obtain⟨v,rfl,h⟩:=h
 refine⟨_,(A2 (D7 (A1k (V8 (B9g O.isi (pv 0) (pty O.list_ boot_list)))) (A5 (Y7 (by rfl) B.g B.q PySem.F.excBase_ValueError hr.hd hx (A0 A3 A1))) C6) (A5 (B6v PassesOwn.leaving rfl (A2g (pv 0)) (A1c (i:=1) scNeedS.nd rfl (Or.inl rfl)) (A5 (D7 (PW.pt (D1g (A1k (V8 (B9g O.isi (pv 1) (pty O.str_ boot_str)))) (C1y (B9 B5p (pv 1) (C9v SG.g) (by rfl))))) (A5 (Y7 (by rfl) B.g B.q PySem.F.excBase_ValueError hr.hd hx (A0 A3 A1))) C6))))),?_⟩
 have z1:1<=sizeLine:=B8 (by decide)
 rcases h with⟨p,zs,rfl,hp,hz,k⟩|⟨(⟨t,ty,kk⟩|⟨p,zs,x,r,rfl,hp,hz,t,b,ty,kk,bad⟩),k⟩
 . refine⟨_,rfl,_,_,_,_,true,rfl,rfl,D2t hp,T.list_list,_,rfl,V1 ?_⟩
   refine⟨_,rfl,p,rfl,⟨_,SqL.of hp⟩,A4x (xs:=zs.map V.str) (fun i σ H'=>H'=H/\∃v,σ=[sr p,v]) ⟨rfl,none,rfl⟩ ?_ ?_ ?_⟩
   . rintro i σ H' _ ⟨rfl,_⟩
     exact SqL.of hp
   . rintro i x σ H' hi ⟨rfl,v,rfl⟩
     obtain⟨z,hzm,rfl⟩:=List.mem_map.mp (List.mem_of_getElem? hi)
     refine⟨_,rfl,_,_,_,_,true,rfl,rfl,B4r _,T.str_str,_,rfl,V1 ?_⟩
     refine⟨_,rfl,aS,C2v,rfl,.inr (SG.sq _),rfl,A1b _,_,rfl,?_⟩
     have e:inV (.str z) C2v=true:=by
       show inV (.str z) (A1j.map V.str)=true
       rw[A1f]
       simpa using hz z hzm
     rw[e]
     exact V1 ⟨rfl,_,rfl⟩
   . rintro σ H' ⟨rfl,v,rfl⟩
     exact k
 . exact⟨_,rfl,_,_,_,_,false,rfl,rfl,ty,kk,_,rfl,Y1 ⟨z1,k⟩⟩
 refine⟨_,rfl,_,_,_,_,true,rfl,rfl,D2t hp,T.list_list,_,rfl,V1 ?_⟩
 refine⟨_,rfl,p,rfl,⟨_,SqL.of hp⟩,A4x (xs:=zs.map V.str++x::r) (fun i σ H'=>H'=H/\i<=zs.length/\∃v,σ=[sr p,v]) ⟨rfl,Nat.zero_le _,none,rfl⟩ ?_ ?_ ?_⟩
 . rintro i σ H' _ ⟨rfl,_⟩
   exact SqL.of hp
 . rintro i y σ H' hi ⟨rfl,hl,v,rfl⟩
   by_cases hlt:i<zs.length
   . rw[List.getElem?_append_left (by simpa using hlt)] at hi
     obtain⟨z,hzm,rfl⟩:=List.mem_map.mp (List.mem_of_getElem? hi)
     refine⟨_,rfl,_,_,_,_,true,rfl,rfl,B4r _,T.str_str,_,rfl,V1 ?_⟩
     refine⟨_,rfl,aS,C2v,rfl,.inr (SG.sq _),rfl,A1b _,_,rfl,?_⟩
     have e:inV (.str z) C2v=true:=by
       show inV (.str z) (A1j.map V.str)=true
       rw[A1f]
       simpa using hz z hzm
     rw[e]
     exact V1 ⟨rfl,by omega,_,rfl⟩
   . have e:i=zs.length:=by omega
     subst e
     rw[List.getElem?_append_right (by simp)] at hi
     simp at hi
     subst hi
     refine⟨_,rfl,_,_,_,_,b,rfl,rfl,ty,kk,_,rfl,?_⟩
     cases b with
     |false=>exact Y1 (Y1 ⟨z1,k⟩)
     | true=>
       obtain⟨z,rfl,nz⟩:=bad.resolve_left (by decide)
       refine V1 ⟨_,rfl,aS,C2v,rfl,.inr (SG.sq _),rfl,A1b _,_,rfl,?_⟩
       have e:inV (.str z) C2v=false:=by
         show inV (.str z) (A1j.map V.str)=false
         rw[A1f]
         simpa using nz
       rw[e]
       exact Y1 ⟨z1,k⟩
 rintro σ H' ⟨rfl,hl,_⟩
 exfalso
 rw[List.length_append,List.length_map,List.length_cons] at hl
 omega
noncomputable abbrev B2c:Stmt:=(top 68)
noncomputable def Z2 (zs:List Str):List Str:=A1j.filter fun z=>zs.contains z
noncomputable def B6n (K:Frag):Sp:=fun vs H Q _=>∃(p:Addr) (zs:List Str),vs=[.ref p]/\SqL K H p (zs.map V.str)/\∀l H',B5 H H' ->H l=none ->H' l=some (.lst ((Z2 zs).map V.str)) ->Q (.ref l) H'
theorem G1q:B0 ["names"] ["names"] (A4 B2c):=scK
theorem C9n{f aS:Addr}(D:Def K mg "in_order" ["names"] B2c f fd)(SG:G8x K mg aS):sI P w K mg base 1 f fd ["names"] (B6n K):=by
 refine A9.up (D.F.ok G1q (fun vs H Q E h=>?_) (fun cdv A outer s H vs Q E hr h=>?_))
 . obtain⟨p,zs,rfl,_⟩:=h
   rfl
 obtain⟨p,zs,rfl,hp,k⟩:=h
 refine⟨_,(A5 (A8 (D2f (N:=["name"]) (F:=["names"]) (js:=[0]) (G0.of1 ⟨rfl,by decide+kernel,by decide+kernel,by decide+kernel,by decide+kernel⟩ (by rfl) (by rfl) ⟨_,by rfl⟩ (by rfl) (by rfl)) (.inl hr.hd) rfl (G4f (C9v SG.g)) rfl (fun C s₀ H₀ ex pn h=>A1c (i:=0) (by decide+kernel:(["name","names"]:List Str).Nodup) rfl (Or.inl rfl)) (fun C s₀ H₀ ex pn h=>(B9 (C2k (K:=K) rfl) (pv 0) (pv 1) (by rfl))) (fun C s₀ H₀ ex pn h=>(pv 0))))),?_⟩
 refine C8q (zs:=A1j) (f:=fun z=>zs.contains z) (σf:=[sr p]) SG.sq (by decide) (fun z H' Qb sm q=>?_) (fun z H' Qv q=>⟨_,rfl,q⟩) (fun D H' sm nd e=>k D H' sm nd e) rfl
 refine⟨_,rfl,_,rfl,p,_,rfl,.inl (sm.seq hp),rfl,A1b _,_,rfl,?_⟩
 show Qb (inV (.str z) (zs.map V.str)) H'
 rw[A1f]
 exact q
structure B0n(K:Frag)(mg:Str ->Option Value)(CC:Addr):Prop where
 g:mg "Context"=some (.ref CC)
 cl:Cls K CC
 n_room:Z0 K CC "room"
 n_rule:Z0 K CC "rule"
 n_least:Z0 K CC "least"
 n_most:Z0 K CC "most"
 n_risen:Z0 K CC "risen"
 n_trapped:Z0 K CC "trapped"
noncomputable def A0z (r s l m a b:V):List (Str×V):=V7 "trapped" b (V7 "risen" a (V7 "most" m (V7 "least" l (V7 "rule" s (V7 "room" r [])))))
theorem A1a(r s l m a b:V)(n:Str):(A0z r s l m a b).lookup n=if n="trapped" then some b else if n="risen" then some a else if n="most" then some m else if n="least" then some l else if n="rule" then some s else if n="room" then some r else none:=by
 unfold A0z
 rw[G3,G3,G3,G3,G3,G3]
 rfl
theorem A1y(r s l m a b:V):(A0z r s l m a b).lookup ("room":Str)=some r:=by rw[A1a,if_neg (by decide+kernel),if_neg (by decide+kernel),if_neg (by decide+kernel),if_neg (by decide+kernel),if_neg (by decide+kernel),if_pos rfl]
theorem D0b(r s l m a b:V):(A0z r s l m a b).lookup ("rule":Str)=some s:=by rw[A1a,if_neg (by decide+kernel),if_neg (by decide+kernel),if_neg (by decide+kernel),if_neg (by decide+kernel),if_pos rfl]
theorem A5b(r s l m a b:V):(A0z r s l m a b).lookup ("least":Str)=some l:=by rw[A1a,if_neg (by decide+kernel),if_neg (by decide+kernel),if_neg (by decide+kernel),if_pos rfl]
theorem A4e(r s l m a b:V):(A0z r s l m a b).lookup ("most":Str)=some m:=by rw[A1a,if_neg (by decide+kernel),if_neg (by decide+kernel),if_pos rfl]
theorem A5s(r s l m a b:V):(A0z r s l m a b).lookup ("risen":Str)=some a:=by rw[A1a,if_neg (by decide+kernel),if_pos rfl]
theorem B0e(r s l m a b:V):(A0z r s l m a b).lookup ("trapped":Str)=some b:=by rw[A1a,if_pos rfl]
theorem A3n(r s l m a b:V):(A0z r s l m a b).lookup ("way":Str)=none:=by rw[A1a,if_neg (by decide+kernel),if_neg (by decide+kernel),if_neg (by decide+kernel),if_neg (by decide+kernel),if_neg (by decide+kernel),if_neg (by decide+kernel)]
theorem A2k(r s l m a b:V):(A0z r s l m a b).lookup ("lowest":Str)=none:=by rw[A1a,if_neg (by decide+kernel),if_neg (by decide+kernel),if_neg (by decide+kernel),if_neg (by decide+kernel),if_neg (by decide+kernel),if_neg (by decide+kernel)]
theorem A6u(r s l m a b:V):(A0z r s l m a b).lookup ("flags":Str)=none:=by rw[A1a,if_neg (by decide+kernel),if_neg (by decide+kernel),if_neg (by decide+kernel),if_neg (by decide+kernel),if_neg (by decide+kernel),if_neg (by decide+kernel)]
theorem B5x(r s l m a b:V):(A0z r s l m a b).lookup ("clear":Str)=none:=by rw[A1a,if_neg (by decide+kernel),if_neg (by decide+kernel),if_neg (by decide+kernel),if_neg (by decide+kernel),if_neg (by decide+kernel),if_neg (by decide+kernel)]
theorem A4n(r s l m a b:V):(A0z r s l m a b).lookup ("trap":Str)=none:=by rw[A1a,if_neg (by decide+kernel),if_neg (by decide+kernel),if_neg (by decide+kernel),if_neg (by decide+kernel),if_neg (by decide+kernel),if_neg (by decide+kernel)]
theorem B7e(r s l m a b:V):(A0z r s l m a b).lookup ("traps":Str)=none:=by rw[A1a,if_neg (by decide+kernel),if_neg (by decide+kernel),if_neg (by decide+kernel),if_neg (by decide+kernel),if_neg (by decide+kernel),if_neg (by decide+kernel)]
theorem A0q(r s l m a b:V):(A0z r s l m a b).lookup ("raised":Str)=none:=by rw[A1a,if_neg (by decide+kernel),if_neg (by decide+kernel),if_neg (by decide+kernel),if_neg (by decide+kernel),if_neg (by decide+kernel),if_neg (by decide+kernel)]
structure A0u(CC:Addr)(H:Hp)(c:Addr)(r:Int)(y:Wy)(l m:Int)(a b:Addr)(xs ys:List V):Prop where
 ins:∃dx,H c=some (.ins CC dx (A0z (.int r) (.str y.name) (.int l) (.int m) (.ref a) (.ref b)))
 ha:H a=some (.lst xs)
 hb:H b=some (.lst ys)
theorem A0u.same{CC:Addr}{H H':Hp}{c:Addr}{r:Int}{y:Wy}{l m:Int}{a b:Addr}{xs ys:List V}(h:A0u CC H c r y l m a b xs ys)(e:B5 H H'):A0u CC H' c r y l m a b xs ys:=by
 obtain⟨⟨dx,z⟩,z1,z2⟩:=h
 exact⟨⟨dx,e _ _ z⟩,e _ _ z1,e _ _ z2⟩
noncomputable abbrev Z3:Stmt:=(G4 (top 65) 0)
noncomputable abbrev B6t:Stmt:=(G4 (top 65) 1)
noncomputable abbrev B7g:Stmt:=(G4 (top 65) 2)
noncomputable abbrev A8q:Stmt:=(G4 (top 65) 3)
noncomputable abbrev A9e:Stmt:=(G4 (top 65) 6)
noncomputable def D0n (l:Int) (v:V):Prop:=(v= .non/\l= -60)\/(v= .int l/\ -60<=l/\l<=0)
noncomputable def B3b (K:Frag) (S:Hp ->Prop) (v1 v2 v3 v4:V):Prop:=(∀H',S H' ->B0h K H' 1 24 v1)\/(A4r 1 24 v1/\((∀H',S H' ->G3w K H' v2)\/((∃y:Wy,v2= .str y.name)/\((v3≠ .non/\∀H',S H' ->B0h K H' (-60) 0 v3)\/((∃l,D0n l v3)/\∀H',S H' ->B0h K H' 0 60 v4)))))
theorem B3b.mono{S S':Hp ->Prop}{v1 v2 v3 v4:V}(e:∀H',S' H' ->S H')(h:B3b K S v1 v2 v3 v4):B3b K S' v1 v2 v3 v4:=by
 rcases h with h|⟨g,h|⟨y,⟨n,h⟩|⟨l,h⟩⟩⟩
 . exact .inl fun H' z=>h H' (e H' z)
 . exact .inr ⟨g,.inl fun H' z=>h H' (e H' z)⟩
 . exact .inr ⟨g,.inr ⟨y,.inl ⟨n,fun H' z=>h H' (e H' z)⟩⟩⟩
 exact .inr ⟨g,.inr ⟨y,.inr ⟨l,fun H' z=>h H' (e H' z)⟩⟩⟩
theorem Exc.none{p a:Addr}{H H':Hp}{o:HO}(x:Exc p H H')(hp:H' p=some o)(n:H' a=none):H a=none:=by
 cases q:H a with
 |none=>rfl
 | some u=>
   have:=x a u q (fun e=>by rw[e,hp] at n;cases n)
   rw[n] at this
   cases this
noncomputable def A5p (K:Frag) (CC CB:Addr):Sp:=fun vs H Q E=>∃p dx v1 v2 v3 v4,vs=[.ref p,v1,v2,v3,v4]/\H p=some (.ins CC dx [])/\
 ((∃r y l m,v1= .int r/\1<=r/\r<=24/\v2= .str (Wy.name y)/\D0n l v3/\v4= .int m/\0<=m/\m<=60/\∀a b H',Exc p H H' ->H a=none ->H b=none ->A0u CC H' p r y l m a b [] [] ->Q .non H')\/
  (B3b K (Exc p H) v1 v2 v3 v4/\∀H',Exc p H H' ->E (.ref CB) none H'))
theorem C6n:B0 Q26 Q26 (A4 Z3):=scK
theorem D1v:A7x 1 24:=by unfold A7x;decide+kernel
theorem C1r:A7x (-60) 0:=by unfold A7x;decide+kernel
theorem D0q:A7x 0 60:=by unfold A7x;decide+kernel
theorem C2m{f fB fW CC CB CW:Addr}{dV:Value}{cw:Wy ->Addr}{fd fdB fdW:FuncData}(F:D4f K "__init__" "Context.__init__" Z3 dV f fd)(dA:Def K mg "bounded" Q5 A7c fB fdB)(dC:Def K mg "way_of" ["name"] B2v fW fdW)
   (dB:sI P w K mg base 2 fB fdB Q5 (B5a K CB)) (dE:sI P w K mg base 1 fW fdW ["name"] (B7c K CB cw)) (C:B0n K mg CC)
   (W:∀y:Wy,B0m K mg y.cls (cw y) CW) (N:∀y:Wy,G2m P w K mg base (cw y) y.name):sI P w K mg base 3 f fd Q26 (A5p K CC CB):=by
 refine F.okE C6n (fun vs H Q E h=>?_) (fun X cdv A outer s H vs Q E hX hr hx h=>?_)
 . obtain⟨p,dx,v1,v2,v3,v4,rfl,_⟩:=h
   rfl
 subst hX
 obtain⟨p,dx,v1,v2,v3,v4,rfl,hp,h⟩:=h
 obtain⟨y,hy⟩:∃y:Wy,∀z:Wy,v2= .str z.name ->z=y:=by
   by_cases q:∃z:Wy,v2= .str z.name
   . obtain⟨z,rfl⟩:=q
     exact⟨z,fun u e=>Wy.inj (V.str.inj e.symm)⟩
   . exact⟨.down,fun z e=>absurd ⟨z,e⟩ q⟩
 obtain⟨fN,fdN,mN,gN,bN⟩:=N y
 refine⟨_,(A2 (Z6 (pv 0) (C8 dA dB hr hx (A0 (pv 1) (A0 A7 (A0 A7 A1)))) rfl) (A2 (Z6 (pv 0) (A0g (C8 dC dE hr hx (A0 (pv 2) A1)) (W y).cl mN gN hr bN .nil hx) rfl) (A2 (B7 (Z6 (pv 0) (U1 (B9 G8t (pv 3) G5c (C0 _)) (A5w A2p A7) (C8 dA dB hr hx (A0 (pv 3) (A0 (A5w A2p A7) (A0 A7 A1))))) rfl)) (A2 (Z6 (pv 0) (C8 dA dB hr hx (A0 (pv 4) (A0 A7 (A0 A7 A1)))) rfl) (A2 (Z6 (pv 0) (U0 A1) rfl) (A5 (Z6 (pv 0) (U0 A1) rfl))))))),?_⟩
 have lz:∀(fs:List (Str×V)) (f:Str) (v:V) (n:Nat),fs.length<=n ->(V7 f v fs).length<=n+1:=fun fs f v n h=>Nat.le_trans (A1h f v fs) (Nat.succ_le_succ h)
 have q0:(([]:List (Str×V))).length<=0:=Nat.le_refl _
 have z0:0<=sizeLine:=Nat.zero_le _
 rcases h with⟨r,y',l,m,rfl,r1,r2,rfl,hl,rfl,m1,m2,k⟩|⟨bad,k⟩
 . obtain rfl:=hy _ rfl
   refine⟨_,rfl,_,_,_,rfl,D1v,.inl ⟨⟨r,rfl,r1,r2⟩,?_⟩⟩
   refine⟨_,rfl,p,CC,dx,[],rfl,hp,C.cl,C.n_room,by show 0<1000;decide,?_⟩
   refine⟨_,rfl,_,rfl,.inl ⟨_,rfl,fun q dq H2 nq s2 eq=>⟨q,dq,[],rfl,eq,rfl,_,rfl,?_⟩⟩⟩
   have hp2:=s2 _ _ (A6 (H:=H) (a:=p) (o:= .ins CC dx (V7 "room" (.int r) [])))
   have x2:Exc p H H2:=(Exc.upd (H:=H) (o:= .ins CC dx (V7 "room" (.int r) []))).trans (.of s2)
   refine⟨_,rfl,p,CC,dx,_,rfl,hp2,C.cl,C.n_rule,Nat.lt_of_le_of_lt (lz _ _ _ 0 q0) (by decide),?_⟩
   refine⟨fun σ' H'=>σ'=[sr p,si r,sR y'.name,some v3,si m]/\Exc p H H'/\H' p=some (.ins CC dx (V7 "least" (.int l) (V7 "rule" (.str y'.name) (V7 "room" (.int r) [])))),?_,?_⟩
   . refine⟨_,rfl,rfl,_,rfl,?_⟩
     rcases hl with⟨rfl,rfl⟩|⟨rfl,l1,l2⟩
     . refine A0y rfl ⟨_,rfl,?_⟩
       exact⟨_,rfl,p,CC,dx,_,rfl,A6,C.cl,C.n_least,Nat.lt_of_le_of_lt (lz _ _ _ 1 (lz _ _ _ 0 q0)) (by decide),rfl,(x2.trans Exc.upd).trans Exc.upd,A6⟩
     . refine A0s (by intro z;cases z) ⟨_,rfl,_,rfl,_,_,_,rfl,C1r,.inl ⟨⟨l,rfl,l1,l2⟩,?_⟩⟩
       exact⟨_,rfl,p,CC,dx,_,rfl,A6,C.cl,C.n_least,Nat.lt_of_le_of_lt (lz _ _ _ 1 (lz _ _ _ 0 q0)) (by decide),rfl,(x2.trans Exc.upd).trans Exc.upd,A6⟩
   rintro σ' H4 ⟨rfl,x4,hp4⟩
   refine⟨_,rfl,_,_,_,rfl,D0q,.inl ⟨⟨m,rfl,m1,m2⟩,?_⟩⟩
   refine⟨_,rfl,p,CC,dx,_,rfl,hp4,C.cl,C.n_most,Nat.lt_of_le_of_lt (lz _ _ _ 2 (lz _ _ _ 1 (lz _ _ _ 0 q0))) (by decide),?_⟩
   refine⟨z0,fun a na=>?_⟩
   refine⟨_,rfl,p,CC,dx,_,rfl,B5.upd na _ _ A6,C.cl,C.n_risen,Nat.lt_of_le_of_lt (lz _ _ _ 3 (lz _ _ _ 2 (lz _ _ _ 1 (lz _ _ _ 0 q0)))) (by decide),?_⟩
   refine⟨z0,fun b nb=>?_⟩
   refine⟨_,rfl,p,CC,dx,_,rfl,B5.upd nb _ _ A6,C.cl,C.n_trapped,Nat.lt_of_le_of_lt (lz _ _ _ 4 (lz _ _ _ 3 (lz _ _ _ 2 (lz _ _ _ 1 (lz _ _ _ 0 q0))))) (by decide),?_⟩
   have x5:=x4.trans (Exc.upd (H:=H4) (o:= .ins CC dx (V7 "most" (.int m) (V7 "least" (.int l) (V7 "rule" (.str y'.name) (V7 "room" (.int r) []))))))
   have nap:a≠p:=fun e=>by rw[e,A6] at na;cases na
   have nbp:b≠p:=fun e=>by rw[e,A6] at nb;cases nb
   have x6:=(x5.trans (.of (B5.upd (o:= .lst []) na))).trans (Exc.upd (o:= .ins CC dx (V7 "risen" (.ref a) (V7 "most" (.int m) (V7 "least" (.int l) (V7 "rule" (.str y'.name) (V7 "room" (.int r) [])))))))
   have x7:=(x6.trans (.of (B5.upd (o:= .lst []) nb))).trans (Exc.upd (o:= .ins CC dx (A0z (.int r) (.str y'.name) (.int l) (.int m) (.ref a) (.ref b))))
   refine k a b _ x7 (x5.none A6 na) (x6.none A6 nb) ⟨⟨dx,A6⟩,?_,?_⟩
   . rw[C9 nap]
     refine B5.upd nb _ _ ?_
     rw[C9 nap]
     exact A6
   . rw[C9 nbp]
     exact A6
 rcases bad with b1|⟨⟨r,rfl,r1,r2⟩,bad⟩
 . exact⟨_,rfl,_,_,_,rfl,D1v,.inr ⟨b1 _ (Exc.refl p H),k _ (Exc.refl p H)⟩⟩
 refine⟨_,rfl,_,_,_,rfl,D1v,.inl ⟨⟨r,rfl,r1,r2⟩,?_⟩⟩
 refine⟨_,rfl,p,CC,dx,[],rfl,hp,C.cl,C.n_room,by show 0<1000;decide,?_⟩
 have x1:Exc p H (upd H p (.ins CC dx (V7 "room" (.int r) []))):=Exc.upd
 rcases bad with b2|⟨⟨y',rfl⟩,bad⟩
 . exact⟨_,rfl,_,rfl,.inr ⟨b2 _ x1,k _ x1⟩⟩
 obtain rfl:=hy _ rfl
 refine⟨_,rfl,_,rfl,.inl ⟨_,rfl,fun q dq H2 nq s2 eq=>⟨q,dq,[],rfl,eq,rfl,_,rfl,?_⟩⟩⟩
 have hp2:=s2 _ _ (A6 (H:=H) (a:=p) (o:= .ins CC dx (V7 "room" (.int r) [])))
 have x2:Exc p H H2:=x1.trans (.of s2)
 refine⟨_,rfl,p,CC,dx,_,rfl,hp2,C.cl,C.n_rule,Nat.lt_of_le_of_lt (lz _ _ _ 0 q0) (by decide),?_⟩
 rcases bad with⟨n3,b3⟩|⟨⟨l,hl⟩,b4⟩
 . refine⟨fun _ _=>False,?_,fun _ _ z=>z.elim⟩
   refine⟨_,rfl,rfl,_,rfl,A0s n3 ?_⟩
   exact⟨_,rfl,_,rfl,_,_,_,rfl,C1r,.inr ⟨b3 _ (x2.trans Exc.upd),k _ (x2.trans Exc.upd)⟩⟩
 refine⟨fun σ' H'=>σ'=[sr p,si r,sR y'.name,some v3,some v4]/\Exc p H H',?_,?_⟩
 . refine⟨_,rfl,rfl,_,rfl,?_⟩
   rcases hl with⟨rfl,rfl⟩|⟨rfl,l1,l2⟩
   . refine A0y rfl ⟨_,rfl,?_⟩
     exact⟨_,rfl,p,CC,dx,_,rfl,A6,C.cl,C.n_least,Nat.lt_of_le_of_lt (lz _ _ _ 1 (lz _ _ _ 0 q0)) (by decide),rfl,(x2.trans Exc.upd).trans Exc.upd⟩
   . refine A0s (by intro z;cases z) ⟨_,rfl,_,rfl,_,_,_,rfl,C1r,.inl ⟨⟨l,rfl,l1,l2⟩,?_⟩⟩
     exact⟨_,rfl,p,CC,dx,_,rfl,A6,C.cl,C.n_least,Nat.lt_of_le_of_lt (lz _ _ _ 1 (lz _ _ _ 0 q0)) (by decide),rfl,(x2.trans Exc.upd).trans Exc.upd⟩
 rintro σ' H4 ⟨rfl,x4⟩
 exact⟨_,rfl,_,_,_,rfl,D0q,.inr ⟨b4 _ x4,k _ x4⟩⟩
noncomputable def B1x (CC:Addr) (cw:Wy ->Addr):Sp:=fun vs H Q _=>∃c r y l m a b xs ys,vs=[.ref c]/\A0u CC H c r y l m a b xs ys/\∀p dx H',H p=none ->B5 H H' ->H' p=some (.ins (cw y) dx []) ->Q (.ref p) H'
theorem D1k:B0 ["self"] ["self"] (A4 B6t):=scK
theorem C6c{f fW CC CB:Addr}{cw:Wy ->Addr}{fd fdW:FuncData}(F:Fun K "way" "Context.way" B6t f fd)(dA:Def K mg "way_of" ["name"] B2v fW fdW)(dB:sI P w K mg base 1 fW fdW ["name"] (B7c K CB cw))(C:B0n K mg CC):
   sI P w K mg base 2 f fd ["self"] (B1x CC cw):=by
 refine F.okE D1k (fun vs H Q E h=>?_) (fun X cdv A outer s H vs Q E hX hr hx h=>?_)
 . obtain⟨c,r,y,l,m,a,b,xs,ys,rfl,_⟩:=h
   rfl
 subst hX
 obtain⟨c,r,y,l,m,a,b,xs,ys,rfl,⟨⟨dx,e⟩,_,_⟩,k⟩:=h
 refine⟨_,(A5 (A8 (C8 dA dB hr hx (A0 (D6 (pv 0) rfl) A1)))),?_⟩
 exact⟨_,rfl,c,CC,dx,_,_,rfl,e,C.cl,C.n_rule,D0b _ _ _ _ _ _,_,rfl,.inl ⟨y,rfl,k⟩⟩
noncomputable def B2p (CC:Addr):Sp:=fun vs H Q _=>∃c r y l m a b xs ys,vs=[.ref c]/\A0u CC H c r y l m a b xs ys/\Q (.int (l-r+1)) H
theorem D1q:B0 ["self"] ["self"] (A4 B7g):=scK
theorem C7y{f CC:Addr}(F:Fun K "lowest" "Context.lowest" B7g f fd)(C:B0n K mg CC):sI P w K mg base 1 f fd ["self"] (B2p CC):=by
 refine A9.up (F.ok D1q (fun vs H Q E h=>?_) (fun cdv A outer s H vs Q E hr h=>?_))
 . obtain⟨c,r,y,l,m,a,b,xs,ys,rfl,_⟩:=h
   rfl
 obtain⟨c,r,y,l,m,a,b,xs,ys,rfl,⟨⟨dx,e⟩,_,_⟩,k⟩:=h
 refine⟨_,(A5 (A8 (D4 A0w (D4 A0k (D6 (pv 0) rfl) (D6 (pv 0) rfl)) A7))),?_⟩
 exact⟨_,rfl,c,CC,dx,_,_,rfl,e,C.cl,C.n_least,A5b _ _ _ _ _ _,_,rfl,c,CC,dx,_,_,rfl,e,C.cl,C.n_room,A1y _ _ _ _ _ _,_,_,rfl,rfl,_,_,rfl,rfl,k⟩
noncomputable def A3d (CC:Addr):Sp:=fun vs H Q _=>∃c r y l m a b xs ys,vs=[.ref c]/\A0u CC H c r y l m a b xs ys/\∀p,H p=none ->Q (.ref p) (upd H p (.lst xs))
theorem C0n:B0 ["self"] ["self"] (A4 A8q):=scK
theorem B8n{f CC:Addr}(F:Fun K "flags" "Context.flags" A8q f fd)(C:B0n K mg CC)(O:Own mg):sI P w K mg base 1 f fd ["self"] (A3d CC):=by
 refine A9.up (F.ok C0n (fun vs H Q E h=>?_) (fun cdv A outer s H vs Q E hr h=>?_))
 . obtain⟨c,r,y,l,m,a,b,xs,ys,rfl,_⟩:=h
   rfl
 obtain⟨c,r,y,l,m,a,b,xs,ys,rfl,⟨⟨dx,e⟩,ha,_⟩,k⟩:=h
 refine⟨_,(A5 (A8 (Z4 A7r (by rfl) O.list_ boot_list (A0 (D6 (pv 0) rfl) A1)))),?_⟩
 exact⟨_,rfl,c,CC,dx,_,_,rfl,e,C.cl,C.n_risen,A5s _ _ _ _ _ _,a,xs,rfl,.inl (SqL.of ha),k⟩
structure D4g(P:Program)(w:World)(K:Frag)(mg:Str ->Option Value)(base:Heap)(CC CB fI:Addr)(fdI:FuncData):Prop where
 m:Mk K CC fI
 g:sI P w K mg base 3 fI fdI Q26 (A5p K CC CB)
theorem A6x{C x dx:Addr}{H H':Hp}(n1:H x=none)(n2:H dx=none)(ne:dx≠x)(e:Exc x (upd (upd H dx (.own x)) x (.ins C dx [])) H'):B5 H H':=fun b o h=>
 e b o (by rw[C9 (D5 h n1),C9 (D5 h n2)];exact h) (D5 h n1)
theorem D1f{CC CB x dx:Addr}{H:Hp}{Q:VK}{E:XK}{v1 v2 v3 v4:V}(n1:H x=none)(n2:H dx=none)(ne:dx≠x)(bad:B3b K (B5 H) v1 v2 v3 v4)(k:∀H',B5 H H' ->E (.ref CB) none H'):
   A5p K CC CB [.ref x,v1,v2,v3,v4] (upd (upd H dx (.own x)) x (.ins CC dx [])) Q E:=
 ⟨x,dx,v1,v2,v3,v4,rfl,A6,.inr ⟨bad.mono fun H' e=>A6x n1 n2 ne e,fun H' e=>k H' (A6x n1 n2 ne e)⟩⟩
noncomputable def A6c (CC:Addr):Sp:=fun vs H Q _=>∃c r y l m a b xs ys,vs=[.ref c]/\A0u CC H c r y l m a b xs ys/\∀p,H p=none ->Q (.ref p) (upd H p (.lst ys))
theorem C0t:B0 ["self"] ["self"] (A4 A9e):=scK
theorem B9p{f CC:Addr}(F:Fun K "traps" "Context.traps" A9e f fd)(C:B0n K mg CC)(O:Own mg):sI P w K mg base 1 f fd ["self"] (A6c CC):=by
 refine A9.up (F.ok C0t (fun vs H Q E h=>?_) (fun cdv A outer s H vs Q E hr h=>?_))
 . obtain⟨c,r,y,l,m,a,b,xs,ys,rfl,_⟩:=h
   rfl
 obtain⟨c,r,y,l,m,a,b,xs,ys,rfl,⟨⟨dx,e⟩,_,hb⟩,k⟩:=h
 refine⟨_,(A5 (A8 (Z4 A7r (by rfl) O.list_ boot_list (A0 (D6 (pv 0) rfl) A1)))),?_⟩
 exact⟨_,rfl,c,CC,dx,_,_,rfl,e,C.cl,C.n_trapped,B0e _ _ _ _ _ _,b,ys,rfl,.inl (SqL.of hb),k⟩
noncomputable abbrev A5q:Stmt:=(G4 (top 6) 0)
theorem C9g:B0 Q33 Q33 (A4 A5q):=scK
theorem C7r{f CT fI:Addr}(F:Fun K "__init__" "Trapped.__init__" A5q f fd)(XI:C8m K CT fI)(hn:findIn K (.ref CT) "signal"=some none):A9 P w K mg base CX0 1 f fd Q33 (B7j CT "signal"):=by
 refine F.ok C9g (fun vs H Q E h=>?_) (fun cdv A outer s H vs Q E hr h=>?_)
 . obtain⟨e,t,v,rfl,_⟩:=h
   rfl
 obtain⟨e,t,v,rfl,he,k⟩:=h
 refine⟨_,(A5 (D9k XI hn (pv 0) (pv 1) rfl)),?_⟩
 exact⟨_,rfl,_,rfl,e,t,rfl,he,fun d nd ne=>k d nd ne⟩
noncomputable abbrev B2s:Stmt:=(G4 (top 65) 5)
noncomputable abbrev A6m:Stmt:=(G4 (top 65) 7)
theorem A7v(r s l m a b:V):(A0z r s l m a b).length=6:=rfl
theorem B7b(r s l m a b v:V):V7 "trapped" v (A0z r s l m a b)=A0z r s l m a v:=rfl
theorem B2m(r s l m a b v:V):V7 "risen" v (A0z r s l m a b)=A0z r s l m v b:=rfl
noncomputable def hit (ys zs:List Str):Option Str:=ys.find? fun t=>zs.contains t
noncomputable def B1g (K:Frag) (CC CB CT:Addr):Sp:=fun vs H Q E=>∃c r y l m a b,∃(xs ys:List Str) (v:V),vs=[.ref c,v]/\A0u CC H c r y l m a b (xs.map V.str) (ys.map V.str)/\xs.length+100<=1000/\
 ((∃ (p:Addr) (zs:List Str),v= .ref p/\H p=some (.lst (zs.map V.str))/\zs.length<=100/\(∀z∈zs,z∈A1j)/\
     (hit ys zs=none ->∀a' H',Exc c H H' ->H a'=none ->A0u CC H' c r y l m a' b ((Z2 (xs++zs)).map V.str) (ys.map V.str) ->Q .non H')/\
     (∀t,hit ys zs=some t ->∀a' d H',Exc c H H' ->H a'=none ->A0u CC H' c r y l m a' b ((Z2 (xs++zs)).map V.str) (ys.map V.str) ->H d=none ->H' d=some (.xd [("signal",.str t)]) ->E (.ref CT) (some d) H'))\/
  (C0m K H v/\E (.ref CB) none H))
theorem scRaised:B0 ["self","names","name"] Q14 (A4 A6m):=scK
theorem C6h{f f1 f2 fX CC CB CT:Addr}{fd fd1 fd2 fdX:FuncData}(F:Fun K "raised" "Context.raised" A6m f fd)(dA:Def K mg "need_signals" ["names"] B2t f1 fd1)(dB:sI P w K mg base 1 f1 fd1 ["names"] (B6u K CB))
   (dC:Def K mg "in_order" ["names"] B2c f2 fd2) (dE:sI P w K mg base 1 f2 fd2 ["names"] (B6n K)) (C:B0n K mg CC)
   (gT:mg "Trapped"=some (.ref CT)) (XI:C8m K CT fX) (GX:A9 P w K mg base CX0 1 fX fdX Q33 (B7j CT "signal")) (BX:Binds K fdX Q33 []):sI P w K mg base 3 f fd Q14 (B1g K CC CB CT):=by
 refine F.okE scRaised (fun vs H Q E h=>?_) (fun X cdv A outer s H vs Q E hX hr hx h=>?_)
 . obtain⟨c,r,y,l,m,a,b,xs,ys,v,rfl,_⟩:=h
   rfl
 subst hX
 obtain⟨c,r,y,l,m,a,b,xs,ys,v,rfl,⟨⟨dx,e⟩,ha,hb⟩,lx,h⟩:=h
 refine⟨_,(A2 (U5 (C8 dA dB hr hx (A0 (pv 1) A1))) (A2 (Z6 (pv 0) (C8 dC dE hr hx (A0 (D4 Z5 (D6 (pv 0) rfl) (pv 1)) A1)) rfl) (A5 (B6v PassesOwn.leaving rfl (A2g (D6 (pv 0) rfl)) (A1c (i:=2) scRaised.nd rfl (Or.inl rfl)) (A5 (D7 (B9 A0t (pv 2) (pv 1) (by rfl)) (A5 (C7m gT XI GX BX hr hx (A0 (pv 2) A1))) C6)))))),?_⟩
 rcases h with⟨p,zs,rfl,hp,lz,hz,k1,k2⟩|⟨bad,k⟩
 . refine⟨_,rfl,_,rfl,.inl ⟨p,zs,rfl,hp,hz,?_⟩⟩
   refine⟨_,rfl,c,CC,dx,_,_,rfl,e,C.cl,C.n_risen,A5s _ _ _ _ _ _,_,rfl,a,p,_,_,rfl,rfl,ha,hp,B8 (by rw[List.length_map,List.length_map];omega),fun q nq=>?_⟩
   have u1:=B5.upd (o:= .lst (xs.map V.str++zs.map V.str)) nq
   refine⟨q,xs++zs,rfl,SqL.of (by rw[A6,List.map_append]),fun a' H1 s1 n1 e1=>?_⟩
   have s2:=u1.trans s1
   refine⟨_,rfl,c,CC,dx,_,rfl,s2 _ _ e,C.cl,C.n_risen,by rw[A7v];decide,?_⟩
   rw[B2m]
   have nbc:b≠c:=A1w hb e (by intro z;cases z)
   have npc:p≠c:=A1w hp e (by intro z;cases z)
   have nac:a'≠c:=A1w e1 (s2 _ _ e) (by intro z;cases z)
   have x2:Exc c H (upd H1 c (.ins CC dx (A0z (.int r) (.str y.name) (.int l) (.int m) (.ref a') (.ref b)))):=(Exc.of s2).trans Exc.upd
   have hb2:(upd H1 c (.ins CC dx (A0z (.int r) (.str y.name) (.int l) (.int m) (.ref a') (.ref b)))) b=some (.lst (ys.map V.str)):=by rw[C9 nbc];exact s2 _ _ hb
   have hp2:(upd H1 c (.ins CC dx (A0z (.int r) (.str y.name) (.int l) (.int m) (.ref a') (.ref b)))) p=some (.lst (zs.map V.str)):=by rw[C9 npc];exact s2 _ _ hp
   have ct:A0u CC (upd H1 c (.ins CC dx (A0z (.int r) (.str y.name) (.int l) (.int m) (.ref a') (.ref b)))) c r y l m a' b ((Z2 (xs++zs)).map V.str) (ys.map V.str):=⟨⟨dx,A6⟩,by rw[C9 nac];exact e1,hb2⟩
   refine⟨_,rfl,c,CC,dx,_,_,rfl,A6,C.cl,C.n_trapped,B0e _ _ _ _ _ _,b,rfl,⟨_,SqL.of hb2⟩,?_⟩
   generalize upd H1 c (.ins CC dx (A0z (.int r) (.str y.name) (.int l) (.int m) (.ref a') (.ref b)))=H3 at x2 hb2 hp2 ct ⊢
   refine A4x (xs:=ys.map V.str) (fun i σ H'=>H'=H3/\(∀t∈ys.take i,zs.contains t=false)/\∃v,σ=[sr c,sr p,v]) ⟨rfl,by simp,none,rfl⟩ ?_ ?_ ?_
   . rintro i σ H' _ ⟨rfl,_⟩
     exact SqL.of hb2
   . rintro i x σ H' hi ⟨rfl,ht,v,rfl⟩
     rw[List.getElem?_map] at hi
     obtain⟨t,hti,rfl⟩:=Option.map_eq_some_iff.mp hi
     refine⟨_,rfl,_,rfl,p,_,rfl,.inl (SqL.of hp2),rfl,A1b _,_,rfl,?_⟩
     have hlt:i<ys.length:=(List.getElem?_eq_some_iff.mp hti).1
     have et:ys.take (i+1)=ys.take i++ [t]:=by
       rw[List.take_succ_eq_append_getElem hlt,(List.getElem?_eq_some_iff.mp hti).2]
     cases hc:zs.contains t with
     | false=>
       rw[show(if false=true then !inV (V.str t) (zs.map V.str) else inV (V.str t) (zs.map V.str))=false by rw[if_neg Bool.false_ne_true,A1f,hc]]
       refine V1 ⟨rfl,fun t' h'=>?_,_,rfl⟩
       rw[et] at h'
       rcases List.mem_append.mp h' with h'|h'
       . exact ht t' h'
       . rw[List.mem_singleton.mp h'];exact hc
     | true=>
       rw[show(if false=true then !inV (V.str t) (zs.map V.str) else inV (V.str t) (zs.map V.str))=true by rw[if_neg Bool.false_ne_true,A1f,hc]]
       obtain⟨dx',hc3⟩:=ct.ins
       refine Y1 ⟨_,rfl,_,rfl,fun d H4 s4 nd e4=>?_⟩
       refine k2 t ?_ a' d H4 (x2.trans (.of s4)) ((u1.free n1)) (ct.same s4) (x2.none hc3 nd) e4
       unfold hit
       rw[List.find?_eq_some_iff_append]
       refine⟨hc,ys.take i,ys.drop (i+1),?_,fun t' h'=>by rw[ht t' h'];rfl⟩
       have:=List.take_append_drop (i+1) ys
       rw[et] at this
       rw[List.append_assoc] at this
       exact this.symm
   . rintro σ H' ⟨rfl,ht,v,rfl⟩
     refine k1 ?_ a' _ x2 (u1.free n1) ct
     unfold hit
     rw[List.find?_eq_none]
     rw[List.length_map,List.take_length] at ht
     intro t hm
     rw[ht t hm]
     exact Bool.false_ne_true
 exact⟨_,rfl,_,rfl,.inr ⟨bad,k⟩⟩
noncomputable def B6w (K:Frag) (CC CB:Addr):Sp:=fun vs H Q E=>∃c r y l m a b xs ys v,vs=[.ref c,v]/\A0u CC H c r y l m a b xs ys/\
 ((∃(p:Addr) (zs:List Str),v= .ref p/\H p=some (.lst (zs.map V.str))/\(∀z∈zs,z∈A1j)/\∀b' H',Exc c H H' ->H b'=none ->A0u CC H' c r y l m a b' xs ((Z2 zs).map V.str) ->Q .non H')\/(C0m K H v/\E (.ref CB) none H))
theorem G6j:B0 Q14 Q14 (A4 B2s):=scK
theorem G2n{f f1 f2 CC CB:Addr}(F:Fun K "trap" "Context.trap" B2s f fd)(dA:Def K mg "need_signals" ["names"] B2t f1 fd1)(dB:sI P w K mg base 1 f1 fd1 ["names"] (B6u K CB))
   (dC:Def K mg "in_order" ["names"] B2c f2 fd2) (dE:sI P w K mg base 1 f2 fd2 ["names"] (B6n K)) (C:B0n K mg CC):sI P w K mg base 2 f fd Q14 (B6w K CC CB):=by
 refine F.okE G6j (fun vs H Q E h=>?_) (fun X cdv A outer s H vs Q E hX hr hx h=>?_)
 . obtain⟨c,r,y,l,m,a,b,xs,ys,v,rfl,_⟩:=h
   rfl
 subst hX
 obtain⟨c,r,y,l,m,a,b,xs,ys,v,rfl,⟨⟨dx,e⟩,ha,hb⟩,h⟩:=h
 refine⟨_,(A2 (U5 (C8 dA dB hr hx (A0 (pv 1) A1))) (A5 (Z6 (pv 0) (C8 dC dE hr hx (A0 (pv 1) A1)) rfl))),?_⟩
 rcases h with⟨p,zs,rfl,hp,hz,k⟩|⟨bad,k⟩
 . refine⟨_,rfl,_,rfl,.inl ⟨p,zs,rfl,hp,hz,?_⟩⟩
   refine⟨_,rfl,p,zs,rfl,SqL.of hp,fun b' H1 s1 n1 e1=>?_⟩
   refine⟨_,rfl,c,CC,dx,_,rfl,s1 _ _ e,C.cl,C.n_trapped,by rw[A7v];decide,?_⟩
   rw[B7b]
   have nac:a≠c:=A1w ha e (by intro z;cases z)
   have nbc:b'≠c:=A1w e1 (s1 _ _ e) (by intro z;cases z)
   exact k b' _ ((Exc.of s1).trans Exc.upd) n1 ⟨⟨dx,A6⟩,by rw[C9 nac];exact s1 _ _ ha,by rw[C9 nbc];exact e1⟩
 exact⟨_,rfl,_,rfl,.inr ⟨bad,k⟩⟩
noncomputable abbrev A9d:Stmt:=(G4 (top 65) 4)
noncomputable def A6k (CC:Addr):Sp:=fun vs H Q _=>∃c r y l m a b xs ys,vs=[.ref c]/\A0u CC H c r y l m a b xs ys/\∀a' H',Exc c H H' ->H a'=none ->A0u CC H' c r y l m a' b [] ys ->Q .non H'
theorem C1n:B0 ["self"] ["self"] (A4 A9d):=scK
theorem B9c{f CC:Addr}(F:Fun K "clear" "Context.clear" A9d f fd)(C:B0n K mg CC):sI P w K mg base 1 f fd ["self"] (A6k CC):=by
 refine A9.up (F.ok C1n (fun vs H Q E h=>?_) (fun cdv A outer s H vs Q E hr h=>?_))
 . obtain⟨c,r,y,l,m,a,b,xs,ys,rfl,_⟩:=h
   rfl
 obtain⟨c,r,y,l,m,a,b,xs,ys,rfl,⟨⟨dx,e⟩,ha,hb⟩,k⟩:=h
 refine⟨_,(A5 (Z6 (pv 0) (U0 A1) rfl)),?_⟩
 refine⟨Nat.zero_le _,fun p np=>?_⟩
 have u:=B5.upd (o:= .lst []) np
 refine⟨_,rfl,c,CC,dx,_,rfl,u _ _ e,C.cl,C.n_risen,by rw[A7v];decide,?_⟩
 rw[B2m]
 have nac:p≠c:=Ne.symm (D5 e np)
 have nbc:b≠c:=A1w hb e (by intro z;cases z)
 exact k p _ ((Exc.of u).trans Exc.upd) np ⟨⟨dx,A6⟩,by rw[C9 nac];exact A6,by rw[C9 nbc];exact u _ _ hb⟩
noncomputable def Wy.goes (y:Wy) (s last part:Int):Bool:=match y with
 | .down=>false
 | .up=>true
 | .floor=>decide (V.int s=V.int 1)
 | .ceiling=>decide (V.int s=V.int 0)
 | .halfUp=>decide (part>=2)
 | .halfDown=>decide (V.int part=V.int 3)
 | .halfEven=>if decide (V.int part=V.int 3)=true then true else if decide (V.int part=V.int 2)=true then decide (V.int (last % 2)=V.int 1) else false
 | .fiveUp=>inV (.int last) [.int 0,.int 5]
noncomputable def Wy.toEnd (y:Wy) (s:Int):Bool:=match y with
 | .down=>false
 | .up=>true
 | .floor=>decide (V.int s=V.int 1)
 | .ceiling=>decide (V.int s=V.int 0)
 | .halfUp=>true
 | .halfDown=>true
 | .halfEven=>true
 | .fiveUp=>false
noncomputable def A3g (y:Wy):Sp:=fun vs H Q _=>∃p s l t,vs=[.ref p,.int s,.int l,.int t]/\∀H',B5 H H' ->Q (.bl (y.goes s l t)) H'
noncomputable def A1r (y:Wy):Sp:=fun vs H Q _=>∃p s,vs=[.ref p,.int s]/\∀H',B5 H H' ->Q (.bl (y.toEnd s)) H'
noncomputable def J4k (P:Program) (w:World) (K:Frag) (mg:Str ->Option Value) (base:Heap) (C:Addr) (y:Wy):Prop:=Has P w K mg base C "goes_up" 1 Q0 (A3g y)
noncomputable def J4j (P:Program) (w:World) (K:Frag) (mg:Str ->Option Value) (base:Heap) (C:Addr) (y:Wy):Prop:=Has P w K mg base C "to_end" 1 Q3 (A1r y)
noncomputable abbrev sU0:Stmt:=(G4 (top 54) 1)
theorem J7r:B0 Q0 Q0 (A4 sU0):=scK
theorem J4g(F:Fun K "goes_up" "Down.goes_up" sU0 f fd):sI P w K mg base 1 f fd Q0 (A3g .down):=by
 refine A9.up (F.ok J7r (fun vs H Q E h=>?_) (fun cdv A outer s H vs Q E hr h=>?_))
 . obtain⟨p,z,l,t,rfl,_⟩:=h
   rfl
 obtain⟨p,z,l,t,rfl,k⟩:=h
 refine⟨_,(A5 (A8 A6v)),?_⟩
 exact k H (B5.refl H)
noncomputable abbrev sT0:Stmt:=(G4 (top 54) 2)
theorem J7k:B0 Q3 Q3 (A4 sT0):=scK
theorem J4q(F:Fun K "to_end" "Down.to_end" sT0 f fd):sI P w K mg base 1 f fd Q3 (A1r .down):=by
 refine A9.up (F.ok J7k (fun vs H Q E h=>?_) (fun cdv A outer s H vs Q E hr h=>?_))
 . obtain⟨p,z,rfl,_⟩:=h
   rfl
 obtain⟨p,z,rfl,k⟩:=h
 refine⟨_,(A5 (A8 A6v)),?_⟩
 exact k H (B5.refl H)
noncomputable abbrev sU1:Stmt:=(G4 (top 55) 1)
theorem J6w:B0 Q0 Q0 (A4 sU1):=scK
theorem J1w(F:Fun K "goes_up" "Up.goes_up" sU1 f fd):sI P w K mg base 1 f fd Q0 (A3g .up):=by
 refine A9.up (F.ok J6w (fun vs H Q E h=>?_) (fun cdv A outer s H vs Q E hr h=>?_))
 . obtain⟨p,z,l,t,rfl,_⟩:=h
   rfl
 obtain⟨p,z,l,t,rfl,k⟩:=h
 refine⟨_,(A5 (A8 A6v)),?_⟩
 exact k H (B5.refl H)
noncomputable abbrev sT1:Stmt:=(G4 (top 55) 2)
theorem J7j:B0 Q3 Q3 (A4 sT1):=scK
theorem J2m(F:Fun K "to_end" "Up.to_end" sT1 f fd):sI P w K mg base 1 f fd Q3 (A1r .up):=by
 refine A9.up (F.ok J7j (fun vs H Q E h=>?_) (fun cdv A outer s H vs Q E hr h=>?_))
 . obtain⟨p,z,rfl,_⟩:=h
   rfl
 obtain⟨p,z,rfl,k⟩:=h
 refine⟨_,(A5 (A8 A6v)),?_⟩
 exact k H (B5.refl H)
noncomputable abbrev sU2:Stmt:=(G4 (top 56) 1)
theorem J7z:B0 Q0 Q0 (A4 sU2):=scK
theorem J3v(F:Fun K "goes_up" "Floor.goes_up" sU2 f fd):sI P w K mg base 1 f fd Q0 (A3g .floor):=by
 refine A9.up (F.ok J7z (fun vs H Q E h=>?_) (fun cdv A outer s H vs Q E hr h=>?_))
 . obtain⟨p,z,l,t,rfl,_⟩:=h
   rfl
 obtain⟨p,z,l,t,rfl,k⟩:=h
 refine⟨_,(A5 (A8 (V2 D9 (pv 1) A7 (C0 _)))),?_⟩
 exact⟨_,rfl,rfl,k H (B5.refl H)⟩
noncomputable abbrev sT2:Stmt:=(G4 (top 56) 2)
theorem J7q:B0 Q3 Q3 (A4 sT2):=scK
theorem J1s(F:Fun K "to_end" "Floor.to_end" sT2 f fd):sI P w K mg base 1 f fd Q3 (A1r .floor):=by
 refine A9.up (F.ok J7q (fun vs H Q E h=>?_) (fun cdv A outer s H vs Q E hr h=>?_))
 . obtain⟨p,z,rfl,_⟩:=h
   rfl
 obtain⟨p,z,rfl,k⟩:=h
 refine⟨_,(A5 (A8 (V2 D9 (pv 1) A7 (C0 _)))),?_⟩
 exact⟨_,rfl,rfl,k H (B5.refl H)⟩
noncomputable abbrev sU3:Stmt:=(G4 (top 57) 1)
theorem J6b:B0 Q0 Q0 (A4 sU3):=scK
theorem J2c(F:Fun K "goes_up" "Ceiling.goes_up" sU3 f fd):sI P w K mg base 1 f fd Q0 (A3g .ceiling):=by
 refine A9.up (F.ok J6b (fun vs H Q E h=>?_) (fun cdv A outer s H vs Q E hr h=>?_))
 . obtain⟨p,z,l,t,rfl,_⟩:=h
   rfl
 obtain⟨p,z,l,t,rfl,k⟩:=h
 refine⟨_,(A5 (A8 (V2 D9 (pv 1) A7 (C0 _)))),?_⟩
 exact⟨_,rfl,rfl,k H (B5.refl H)⟩
noncomputable abbrev sT3:Stmt:=(G4 (top 57) 2)
theorem J7v:B0 Q3 Q3 (A4 sT3):=scK
theorem J2y(F:Fun K "to_end" "Ceiling.to_end" sT3 f fd):sI P w K mg base 1 f fd Q3 (A1r .ceiling):=by
 refine A9.up (F.ok J7v (fun vs H Q E h=>?_) (fun cdv A outer s H vs Q E hr h=>?_))
 . obtain⟨p,z,rfl,_⟩:=h
   rfl
 obtain⟨p,z,rfl,k⟩:=h
 refine⟨_,(A5 (A8 (V2 D9 (pv 1) A7 (C0 _)))),?_⟩
 exact⟨_,rfl,rfl,k H (B5.refl H)⟩
noncomputable abbrev sU4:Stmt:=(G4 (top 58) 1)
theorem J8k:B0 Q0 Q0 (A4 sU4):=scK
theorem J1c(F:Fun K "goes_up" "HalfUp.goes_up" sU4 f fd):sI P w K mg base 1 f fd Q0 (A3g .halfUp):=by
 refine A9.up (F.ok J8k (fun vs H Q E h=>?_) (fun cdv A outer s H vs Q E hr h=>?_))
 . obtain⟨p,z,l,t,rfl,_⟩:=h
   rfl
 obtain⟨p,z,l,t,rfl,k⟩:=h
 refine⟨_,(A5 (A8 (V2 C4c (pv 3) A7 (C0 _)))),?_⟩
 exact⟨_,rfl,_,_,rfl,rfl,k H (B5.refl H)⟩
noncomputable abbrev sT4:Stmt:=(G4 (top 58) 2)
theorem J6h:B0 Q3 Q3 (A4 sT4):=scK
theorem J3u(F:Fun K "to_end" "HalfUp.to_end" sT4 f fd):sI P w K mg base 1 f fd Q3 (A1r .halfUp):=by
 refine A9.up (F.ok J6h (fun vs H Q E h=>?_) (fun cdv A outer s H vs Q E hr h=>?_))
 . obtain⟨p,z,rfl,_⟩:=h
   rfl
 obtain⟨p,z,rfl,k⟩:=h
 refine⟨_,(A5 (A8 A6v)),?_⟩
 exact k H (B5.refl H)
noncomputable abbrev sU5:Stmt:=(G4 (top 59) 1)
theorem J6d:B0 Q0 Q0 (A4 sU5):=scK
theorem J1r(F:Fun K "goes_up" "HalfDown.goes_up" sU5 f fd):sI P w K mg base 1 f fd Q0 (A3g .halfDown):=by
 refine A9.up (F.ok J6d (fun vs H Q E h=>?_) (fun cdv A outer s H vs Q E hr h=>?_))
 . obtain⟨p,z,l,t,rfl,_⟩:=h
   rfl
 obtain⟨p,z,l,t,rfl,k⟩:=h
 refine⟨_,(A5 (A8 (V2 D9 (pv 3) A7 (C0 _)))),?_⟩
 exact⟨_,rfl,rfl,k H (B5.refl H)⟩
noncomputable abbrev sT5:Stmt:=(G4 (top 59) 2)
theorem J8h:B0 Q3 Q3 (A4 sT5):=scK
theorem J2r(F:Fun K "to_end" "HalfDown.to_end" sT5 f fd):sI P w K mg base 1 f fd Q3 (A1r .halfDown):=by
 refine A9.up (F.ok J8h (fun vs H Q E h=>?_) (fun cdv A outer s H vs Q E hr h=>?_))
 . obtain⟨p,z,rfl,_⟩:=h
   rfl
 obtain⟨p,z,rfl,k⟩:=h
 refine⟨_,(A5 (A8 A6v)),?_⟩
 exact k H (B5.refl H)
noncomputable abbrev sU6:Stmt:=(G4 (top 60) 1)
theorem J7b:B0 Q0 Q0 (A4 sU6):=scK
theorem J1p(F:Fun K "goes_up" "HalfEven.goes_up" sU6 f fd):sI P w K mg base 1 f fd Q0 (A3g .halfEven):=by
 refine A9.up (F.ok J7b (fun vs H Q E h=>?_) (fun cdv A outer s H vs Q E hr h=>?_))
 . obtain⟨p,z,l,t,rfl,_⟩:=h
   rfl
 obtain⟨p,z,l,t,rfl,k⟩:=h
 refine⟨_,(A5 (A8 (J2u (V2 D9 (pv 3) A7 (C0 _)) (A6f (A6e (V2 D9 (pv 3) A7 (C0 _)) (A6f (V2 D9 (D4 A2q (pv 2) A7) A7 (C0 _)))))))),?_⟩
 have k:=k H (B5.refl H)
 unfold Wy.goes at k
 refine⟨_,rfl,rfl,_,rfl,?_⟩
 cases e:decide (V.int t=V.int 3) with
 |true=>rw[e] at k;exact Y1 k
 | false=>
   rw[e] at k
   refine V1 ⟨_,rfl,rfl,_,rfl,?_⟩
   cases e2:decide (V.int t=V.int 2) with
   |true=>rw[e2] at k;exact Y1 ⟨_,rfl,_,_,rfl,rfl,(by decide:(0:Int)<2),rfl,k⟩
   |false=>rw[e2] at k;exact V1 k
noncomputable abbrev sT6:Stmt:=(G4 (top 60) 2)
theorem J7w:B0 Q3 Q3 (A4 sT6):=scK
theorem J1t(F:Fun K "to_end" "HalfEven.to_end" sT6 f fd):sI P w K mg base 1 f fd Q3 (A1r .halfEven):=by
 refine A9.up (F.ok J7w (fun vs H Q E h=>?_) (fun cdv A outer s H vs Q E hr h=>?_))
 . obtain⟨p,z,rfl,_⟩:=h
   rfl
 obtain⟨p,z,rfl,k⟩:=h
 refine⟨_,(A5 (A8 A6v)),?_⟩
 exact k H (B5.refl H)
noncomputable abbrev sU7:Stmt:=(G4 (top 61) 1)
theorem J6c:B0 Q0 Q0 (A4 sU7):=scK
theorem J3m(F:Fun K "goes_up" "FiveUp.goes_up" sU7 f fd):sI P w K mg base 1 f fd Q0 (A3g .fiveUp):=by
 refine A9.up (F.ok J6c (fun vs H Q E h=>?_) (fun cdv A outer s H vs Q E hr h=>?_))
 . obtain⟨p,z,l,t,rfl,_⟩:=h
   rfl
 obtain⟨p,z,l,t,rfl,k⟩:=h
 refine⟨_,(A5 (A8 (V2 A0t (pv 2) (G6 (A0 A7 (A0 A7 A1))) (by rfl)))),?_⟩
 exact⟨_,rfl,B8 (by decide),fun q nq=>⟨q,_,rfl,.inr (SqT.of A6),rfl,rfl,k _ (B5.upd nq)⟩⟩
noncomputable abbrev sT7:Stmt:=(G4 (top 61) 2)
theorem J7p:B0 Q3 Q3 (A4 sT7):=scK
theorem J2e(F:Fun K "to_end" "FiveUp.to_end" sT7 f fd):sI P w K mg base 1 f fd Q3 (A1r .fiveUp):=by
 refine A9.up (F.ok J7p (fun vs H Q E h=>?_) (fun cdv A outer s H vs Q E hr h=>?_))
 . obtain⟨p,z,rfl,_⟩:=h
   rfl
 obtain⟨p,z,rfl,k⟩:=h
 refine⟨_,(A5 (A8 A6v)),?_⟩
 exact k H (B5.refl H)
noncomputable abbrev A8g:Stmt:=(top 33)
noncomputable abbrev A4y:Stmt:=(top 34)
noncomputable abbrev A1t:Stmt:=(top 35)
noncomputable abbrev A7e:Stmt:=(top 36)
noncomputable abbrev A6y:Stmt:=(top 37)
noncomputable abbrev B2u:Stmt:=(top 38)
noncomputable abbrev B1u:Stmt:=(top 39)
noncomputable abbrev A7y:Stmt:=(top 40)
noncomputable abbrev A8d:Stmt:=(top 41)
noncomputable abbrev A3j:Stmt:=(top 42)
structure Cv where
 r:Int
 y:Wy
 l:Int
 m:Int
structure Cv.Ok(c:Cv):Prop where
 r1:1<=c.r
 r2:c.r<=24
 l1: -60<=c.l
 l2:c.l<=0
 m1:0<=c.m
 m2:c.m<=60
noncomputable def strip (ideal:Int):Nat ->Int ->Int ->Int×Int
 |0,f,p=>(f,p)
 |n+1,f,p=>if f % 10=0 then strip ideal n (f/10) (p+1) else(f,p)
noncomputable def A1x (ideal f p:Int):Int×Int:=strip ideal (ideal-p).toNat f p
theorem C2q{ideal f p:Int}(h:p<ideal)(z:f % 10=0):A1x ideal f p=A1x ideal (f/10) (p+1):=by
 unfold A1x
 obtain⟨n,hn⟩:∃n,(ideal-p).toNat=n+1:=⟨(ideal-p).toNat-1,by omega⟩
 rw[hn,show(ideal-(p+1)).toNat=n by omega]
 show(if f % 10=0 then strip ideal n (f/10) (p+1) else(f,p))=_
 rw[if_pos z]
theorem C1q{ideal f p:Int}(h:¬(p<ideal/\f % 10=0)):A1x ideal f p=(f,p):=by
 unfold A1x
 by_cases q:p<ideal
 . obtain⟨n,hn⟩:∃n,(ideal-p).toNat=n+1:=⟨(ideal-p).toNat-1,by omega⟩
   rw[hn]
   show(if f % 10=0 then strip ideal n (f/10) (p+1) else(f,p))=_
   rw[if_neg fun z=>h ⟨q,z⟩]
 rw[show(ideal-p).toNat=0 by omega]
 rfl
noncomputable def C1p (f:Int):Int:=((Str.ofString (toString f)).length:Nat)
noncomputable def upI (y:Wy) (s wh pt:Int):Int:=if(if pt=0 then false else y.goes s (wh % 10) pt)=true then wh+1 else wh
noncomputable def B9a (r f q:Int):Int×Int:=if f=C7 r then(f/10,q+1) else(f,q)
noncomputable def A2v (c:Cv) (s wh pt q ideal:Int):Int×Int:=if pt=0 then A1x ideal wh q else B9a c.r (upI c.y s wh pt) q
noncomputable def A6w (m f p:Int):Bool:=if f=0 then false else decide (p+C1p f-1>m)
noncomputable def C0s (c:Cv) (s:Int):Nm:=if c.y.toEnd s=true then⟨.end_,s,0,0⟩ else⟨.plain,s,C7 c.r-1,c.m-c.r+1⟩
noncomputable def A2f (pt:Int) (cut:Bool):List Str:=if pt=0 then(if cut=true then ["cut"] else []) else ["off","cut"]
noncomputable def A2h (l L pt:Int):List Str:=if L>=l then [] else if pt=0 then ["faint"] else ["sunk","faint"]
noncomputable def C4v (c:Cv) (s wh pt L q ideal:Int):Nm×List Str:=
 if A6w c.m (A2v c s wh pt q ideal).1 (A2v c s wh pt q ideal).2=true then(C0s c s,Q42)
 else(⟨.plain,s,(A2v c s wh pt q ideal).1,(A2v c s wh pt q ideal).2⟩,A2f pt (decide ((A2v c s wh pt q ideal).2>ideal))++A2h c.l L pt)
noncomputable def C7t (a b:Int):Int:=if b>a then b else a
noncomputable def J1m (a b:Int):Int:=if b<a then b else a
noncomputable def V4 (CC:Addr) (H:Hp) (c:Addr) (v:Cv) (a b:Addr) (xs ys:List Str):Prop:=A0u CC H c v.r v.y v.l v.m a b (xs.map V.str) (ys.map V.str)
theorem V4.same{CC:Addr}{H H':Hp}{c:Addr}{v:Cv}{a b:Addr}{xs ys:List Str}(h:V4 CC H c v a b xs ys)(e:B5 H H'):V4 CC H' c v a b xs ys:=A0u.same h e
theorem B4p{CN:Addr}{H:Hp}{Q:VK}{E:XK}{k s f p:V}(h:∀n H',H n=none ->B5 H H' ->A2j CN H' n k s f p ->Q (.ref n) H'):
   ∀x dx,H x=none ->H dx=none ->dx≠x ->B6d CN (.ref x::([k,s,f,p]++ [])) (upd (upd H dx (.own x)) x (.ins CN dx [])) (fun v H2=>v= .non/\Q (.ref x) H2) E:=by
 intro x dx nx nd ne
 refine⟨x,dx,k,s,f,p,rfl,A6,fun H' e kp=>⟨rfl,h x H' nx (fun b o z=>?_) ⟨dx,e⟩⟩⟩
 refine kp b o ?_ (D5 z nx)
 rw[C9 (D5 z nx),C9 (D5 z nd)]
 exact z
structure A5v(P:Program)(w:World)(K:Frag)(mg:Str ->Option Value)(base:Heap)(CC CB CT CW:Addr)(cw:Wy ->Addr):Prop where
 c:B0n K mg CC
 way:Has P w K mg base CC "way" 2 ["self"] (B1x CC cw)
 low:Has P w K mg base CC "lowest" 1 ["self"] (B2p CC)
 raised:Has P w K mg base CC "raised" 3 Q14 (B1g K CC CB CT)
 wc:∀y:Wy,B0m K mg y.cls (cw y) CW
 u:∀y:Wy,J4k P w K mg base (cw y) y
 e:∀y:Wy,J4j P w K mg base (cw y) y
noncomputable def B3t (CN:Addr):Sp:=fun vs H Q _=>∃i s f p:Int,vs=[.int i,.int s,.int f,.int p]/\∀n H',H n=none ->B5 H H' ->Y0 CN H' n ⟨.plain,s,(A1x i f p).1,(A1x i f p).2⟩ ->Q (.ref n) H'
theorem scNearest:B0 Q17 Q17 (A4 A4y):=scK
theorem C1v{f fI CN:Addr}{fd fdI:FuncData}(D:Def K mg "nearest_to" Q17 A4y f fd)(N:Num K mg CN)(M:B0g P w K mg base CN fI fdI):sI P w K mg base 3 f fd Q17 (B3t CN):=by
 refine A9.up (D.F.ok scNearest (fun vs H Q E h=>?_) (fun cdv A outer s H vs Q E hr h=>?_))
 . obtain⟨i,s,f,p,rfl,_⟩:=h
   rfl
 obtain⟨i,sg,fg,pw,rfl,k⟩:=h
 have hx:G7 (A0v CX0 P w K mg base Q17 "nearest_to" (A4 A4y) f cdv A outer s H E).nox EKF:=Y8
 refine⟨_,(A2 (B2w PassesOwn.never (PW.pt (A9b (B9 B8x (pv 3) (pv 0) (C0 _)) (A5j (B9 D9 (D4 A2q (pv 2) A7) A7 (C0 _))))) (A2 (D3 (i:=2) scNearest.nd rfl (Or.inl rfl) (D4 A0n (pv 2) A7)) (A5 (D3 (i:=3) scNearest.nd rfl (Or.inl rfl) (D4 A0w (pv 3) A7))))) (A5 (A8 (A5y M.m (A9.up M.g) hr N.g M.b .nil hx (A0 A3 (A0 (pv 1) (A0 (pv 2) (A0 (pv 3) A1)))))))),?_⟩
 have d10:(0:Int)<10/\(10:Int).natAbs.log2<9000:=⟨by decide,by decide+kernel⟩
 refine B2f (fun σ H2=>H2=H/\∃f p:Int,A1x i f p=A1x i fg pw/\σ=[si i,si sg,si f,si p]) (fun σ _=>match σ with| [_,_,_,some (.int p)]=>(i-p).toNat|_=>0) ?_ ?_ ?_
 . exact⟨rfl,fg,pw,rfl,rfl⟩
 . rintro σ H2 ⟨rfl,f,p,e,rfl⟩
   have stop:¬(p<i/\f % 10=0) ->∀n H',H2 n=none ->B5 H2 H' ->A2j CN H' n (.str "plain") (.int sg) (.int f) (.int p) ->Q (.ref n) H':=fun h n H' nn sm num=>by
     refine k n H' nn sm ?_
     rw[<-e,C1q h]
     exact num
   refine⟨_,rfl,_,rfl,_,_,rfl,rfl,_,rfl,U6 (fun h1=>?_) (fun h1=>V1 ⟨_,rfl,_,rfl,_,rfl,B4p (stop fun q=>h1 q.1)⟩)⟩
   refine⟨_,rfl,_,_,rfl,rfl,d10.1,rfl,_,rfl,U6 (fun h2=>?_) (fun h2=>⟨_,rfl,_,rfl,_,rfl,B4p (stop fun q=>h2 (congrArg V.int q.2))⟩)⟩
   have h1:p<i:=h1
   have h2:f % 10=0:=by injection h2
   refine⟨_,rfl,_,_,rfl,rfl,d10,_,rfl,_,_,rfl,rfl,⟨rfl,f/10,p+1,(C2q h1 h2).symm.trans e,rfl⟩,?_⟩
   show(i-(p+1)).toNat<(i-p).toNat
   omega
 rintro σ H2 Q1 Q2 hQ ⟨v,e,v2,e2,a,b,e3,e4,c,e5,q⟩
 refine⟨v,e,v2,e2,a,b,e3,e4,c,e5,?_⟩
 cases c with
 |false=>exact V1 (hQ _ _ (by simpa using q))
 | true=>
   have q:_:=q
   rw[if_pos rfl] at q ⊢
   obtain⟨v3,e6,a2,b2,e7,e8,e9,e10,e11,e12,q⟩:=q
   exact⟨v3,e6,a2,b2,e7,e8,e9,e10,e11,e12,hQ _ _ q⟩
noncomputable def B0c (CC:Addr):Sp:=fun vs H Q _=>∃c v a b xs ys p,∃s wh pt:Int,vs=[.ref c,.int s,.ref p]/\V4 CC H c v a b xs ys/\H p=some (.tup [.int wh,.int pt])/\∀H',B5 H H' ->Q (.int (upI v.y s wh pt)) H'
theorem B8s:B0 Q18 Q18 (A4 A1t):=scK
theorem B5n{f CC CB CT CW:Addr}{cw:Wy ->Addr}(D:Def K mg "neighbour" Q18 A1t f fd)(C:A5v P w K mg base CC CB CT CW cw):sI P w K mg base 3 f fd Q18 (B0c CC):=by
 refine A9.up (D.F.ok B8s (fun vs H Q E h=>?_) (fun cdv A outer s H vs Q E hr h=>?_))
 . obtain⟨c,v,a,b,xs,ys,p,sg,wh,pt,rfl,_⟩:=h
   rfl
 obtain⟨c,v,a,b,xs,ys,p,sg,wh,pt,rfl,hc,hp,k⟩:=h
 have hx:G7 (A0v CX0 P w K mg base Q18 "neighbour" (A4 A1t) f cdv A outer s H E).nox EKF:=Y8
 obtain⟨fW,fdW,mW,gW,bW⟩:=C.way
 obtain⟨fU,fdU,mU,gU,bU⟩:=C.u v.y
 refine⟨_,(A2 (D7 (PW.pt (A9b (B9 B0a (V3 A0h (pv 2) A7 (fun _ _=>rfl)) A7 (C0 _)) (A5j (V8 (A4g (A0g (pv 0) C.c.cl mW gW hr bW .nil hx) (C.wc v.y).cl mU gU hr bU .nil hx (A0 (pv 1) (A0 (D4 A2q (V3 A0h (pv 2) A7 (fun _ _=>rfl)) A7) (A0 (V3 A0h (pv 2) A7 (fun _ _=>rfl)) A1)))))))) (A5 (A8 (D4 A0w (V3 A0h (pv 2) A7 (fun _ _=>rfl)) A7))) C6) (A5 (A8 (V3 A0h (pv 2) A7 (fun _ _=>rfl))))),?_⟩
 obtain⟨⟨dx,e⟩,_,_⟩:=id hc
 unfold upI at k
 refine⟨_,rfl,p,_,_,_,rfl,rfl,SqT.of hp,G5 (j:=1) rfl,rfl,_,rfl,?_⟩
 by_cases h0:pt=0
 . subst h0
   rw[if_pos rfl,if_neg Bool.false_ne_true] at k
   exact D0d rfl (V1 ⟨_,rfl,p,_,_,_,rfl,rfl,SqT.of hp,G5 (j:=0) rfl,k H (B5.refl H)⟩)
 rw[if_neg h0] at k
 rw[decide_eq_false (fun q=>h0 (by injection q):¬V.int pt=V.int 0)]
 refine Y1 ⟨_,rfl,c,dx,_,rfl,e,A3n _ _ _ _ _ _,c,v.r,v.y,v.l,v.m,a,b,_,_,rfl,hc,fun q dq H1 nq s1 eq=>?_⟩
 refine⟨q,dq,_,rfl,eq,rfl,_,rfl,_,rfl,p,_,_,_,rfl,rfl,SqT.of (s1 _ _ hp),G5 (j:=0) rfl,_,_,rfl,rfl,(by decide:(0:Int)<10),_,rfl,p,_,_,_,rfl,rfl,SqT.of (s1 _ _ hp),G5 (j:=1) rfl,q,sg,wh % 10,pt,rfl,fun H2 s2=>⟨_,rfl,?_⟩⟩
 have s3:=s1.trans s2
 cases g:v.y.goes sg (wh % 10) pt with
 | true=>
   rw[g,if_pos rfl] at k
   exact Y1 ⟨_,rfl,p,_,_,_,rfl,rfl,SqT.of (s3 _ _ hp),G5 (j:=0) rfl,_,_,rfl,rfl,k H2 s3⟩
 | false=>
   rw[g,if_neg Bool.false_ne_true] at k
   exact V1 ⟨_,rfl,p,_,_,_,rfl,rfl,SqT.of (s3 _ _ hp),G5 (j:=0) rfl,k H2 s3⟩
noncomputable def B8z (CN CC:Addr):Sp:=fun vs H Q _=>∃c v a b xs ys,∃s f q:Int,vs=[.ref c,.int s,.int f,.int q]/\V4 CC H c v a b xs ys/\v.Ok/\∀n H',H n=none ->B5 H H' ->Y0 CN H' n ⟨.plain,s,(B9a v.r f q).1,(B9a v.r f q).2⟩ ->Q (.ref n) H'
theorem D1s:B0 Q19 Q19 (A4 A7e):=scK
theorem C8b{f f1 fI CN CC CB CT CW:Addr}{cw:Wy ->Addr}{fd fd1 fdI:FuncData}(D:Def K mg "within_room" Q19 A7e f fd)(dA:Def K mg "ten_to" ["count"] A3t f1 fd1)(dB:sI P w K mg base 2 f1 fd1 ["count"] A5f)(C:A5v P w K mg base CC CB CT CW cw)(N:Num K mg CN)(M:B0g P w K mg base CN fI fdI):
   sI P w K mg base 3 f fd Q19 (B8z CN CC):=by
 refine A9.up (D.F.ok D1s (fun vs H Q E h=>?_) (fun cdv A outer s H vs Q E hr h=>?_))
 . obtain⟨c,v,a,b,xs,ys,sg,f,q,rfl,_⟩:=h
   rfl
 obtain⟨c,v,a,b,xs,ys,sg,fg,q,rfl,hc,ok,k⟩:=h
 have hx:G7 (A0v CX0 P w K mg base Q19 "within_room" (A4 A7e) f cdv A outer s H E).nox EKF:=Y8
 refine⟨_,(A2 (D7 (B9 D9 (pv 2) (C8 dA dB hr hx (A0 (D6 (pv 0) rfl) A1)) (C0 _)) (A5 (A8 (A5y M.m (A9.up M.g) hr N.g M.b .nil hx (A0 A3 (A0 (pv 1) (A0 (D4 A0n (pv 2) A7) (A0 (D4 A0w (pv 3) A7) A1))))))) C6) (A5 (A8 (A5y M.m (A9.up M.g) hr N.g M.b .nil hx (A0 A3 (A0 (pv 1) (A0 (pv 2) (A0 (pv 3) A1)))))))),?_⟩
 have d10:(0:Int)<10/\(10:Int).natAbs.log2<9000:=⟨by decide,by decide+kernel⟩
 obtain⟨⟨dx,e⟩,_,_⟩:=id hc
 have r1:=ok.r1;have r2:=ok.r2
 refine⟨_,rfl,_,rfl,c,CC,dx,_,_,rfl,e,C.c.cl,C.c.n_room,A1y _ _ _ _ _ _,v.r.toNat,(by rw[Int.toNat_of_nonneg (by omega)];rfl),by omega,rfl,_,rfl,?_⟩
 unfold B9a at k
 refine U6 (fun h=>?_) (fun h=>?_)
 . have h:fg=C7 v.r:=by injection h
   rw[if_pos h] at k
   exact⟨_,rfl,_,rfl,_,_,rfl,rfl,d10,_,rfl,_,_,rfl,rfl,B4p k⟩
 have h:¬fg=C7 v.r:=fun z=>h (congrArg V.int z)
 rw[if_neg h] at k
 exact⟨_,rfl,_,rfl,_,rfl,B4p k⟩
noncomputable def B9m (CN CC:Addr):Sp:=fun vs H Q _=>∃c v a b xs ys n x,vs=[.ref c,.ref n]/\V4 CC H c v a b xs ys/\Y0 CN H n x/\x.f.natAbs<2^300/\Q (.bl (A6w v.m x.f x.p)) H
theorem C9q:B0 Q20 Q20 (A4 A6y):=scK
theorem C7d{f f1 CN CC CB CT CW:Addr}{cw:Wy ->Addr}(D:Def K mg "is_beyond" Q20 A6y f fd)(dA:Def K mg "lead_of" ["number"] B8w f1 fd1)(dB:sI P w K mg base 1 f1 fd1 ["number"] (C1f CN))(C:A5v P w K mg base CC CB CT CW cw)(N:Num K mg CN):
   sI P w K mg base 2 f fd Q20 (B9m CN CC):=by
 refine A9.up (D.F.ok C9q (fun vs H Q E h=>?_) (fun cdv A outer s H vs Q E hr h=>?_))
 . obtain⟨c,v,a,b,xs,ys,n,x,rfl,_⟩:=h
   rfl
 obtain⟨c,v,a,b,xs,ys,n,x,rfl,hc,hn,hf,k⟩:=h
 have hx:G7 (A0v CX0 P w K mg base Q20 "is_beyond" (A4 A6y) f cdv A outer s H E).nox EKF:=Y8
 refine⟨_,(A5 (A8 (A6e (V2 B0a (D6 (pv 1) rfl) A7 (C0 _)) (A6f (V2 A8c (C8 dA dB hr hx (A0 (pv 1) A1)) (D6 (pv 0) rfl) (C0 _)))))),?_⟩
 obtain⟨⟨dx,e⟩,_,_⟩:=id hc
 obtain⟨dn,en⟩:=id hn
 unfold A6w at k
 refine⟨_,rfl,n,CN,dn,_,_,rfl,en,N.cl,N.n3,B3f _ _ _ _,rfl,_,rfl,?_⟩
 by_cases h0:x.f=0
 . rw[if_pos h0] at k
   rw[decide_eq_true (congrArg V.int h0)]
   exact V1 k
 rw[if_neg h0] at k
 rw[decide_eq_false (fun q=>h0 (by injection q):¬V.int x.f=V.int 0)]
 exact Y1 ⟨_,rfl,n,_,_,_,_,rfl,hn,hf,_,rfl,c,CC,dx,_,_,rfl,e,C.c.cl,C.c.n_most,A4e _ _ _ _ _ _,_,_,rfl,rfl,k⟩
noncomputable def C4e (CN CC:Addr):Sp:=fun vs H Q _=>∃c v a b xs ys,∃s:Int,vs=[.ref c,.int s]/\V4 CC H c v a b xs ys/\v.Ok/\∀n H',H n=none ->B5 H H' ->Y0 CN H' n ⟨.plain,s,C7 v.r-1,v.m-v.r+1⟩ ->Q (.ref n) H'
theorem G2d:B0 Q7 Q7 (A4 B1u):=scK
theorem D2y{f f1 fI CN CC CB CT CW:Addr}{cw:Wy ->Addr}{fd fd1 fdI:FuncData}(D:Def K mg "nines" Q7 B1u f fd)(dA:Def K mg "ten_to" ["count"] A3t f1 fd1)(dB:sI P w K mg base 2 f1 fd1 ["count"] A5f)(C:A5v P w K mg base CC CB CT CW cw)(N:Num K mg CN)(M:B0g P w K mg base CN fI fdI):
   sI P w K mg base 3 f fd Q7 (C4e CN CC):=by
 refine A9.up (D.F.ok G2d (fun vs H Q E h=>?_) (fun cdv A outer s H vs Q E hr h=>?_))
 . obtain⟨c,v,a,b,xs,ys,sg,rfl,_⟩:=h
   rfl
 obtain⟨c,v,a,b,xs,ys,sg,rfl,hc,ok,k⟩:=h
 have hx:G7 (A0v CX0 P w K mg base Q7 "nines" (A4 B1u) f cdv A outer s H E).nox EKF:=Y8
 refine⟨_,(A5 (A8 (A5y M.m (A9.up M.g) hr N.g M.b .nil hx (A0 A3 (A0 (pv 1) (A0 (D4 A0k (C8 dA dB hr hx (A0 (D6 (pv 0) rfl) A1)) A7) (A0 (D4 A0w (D4 A0k (D6 (pv 0) rfl) (D6 (pv 0) rfl)) A7) A1))))))),?_⟩
 obtain⟨⟨dx,e⟩,_,_⟩:=id hc
 have r1:=ok.r1;have r2:=ok.r2
 exact⟨_,rfl,_,rfl,c,CC,dx,_,_,rfl,e,C.c.cl,C.c.n_room,A1y _ _ _ _ _ _,v.r.toNat,(by rw[Int.toNat_of_nonneg (by omega)];rfl),by omega,_,_,rfl,rfl,_,rfl,c,CC,dx,_,_,rfl,e,C.c.cl,C.c.n_most,A4e _ _ _ _ _ _,_,rfl,c,CC,dx,_,_,rfl,e,C.c.cl,C.c.n_room,A1y _ _ _ _ _ _,_,_,rfl,rfl,_,_,rfl,rfl,B4p k⟩
noncomputable def C4n (CN CC:Addr):Sp:=fun vs H Q _=>∃c v a b xs ys,∃s:Int,vs=[.ref c,.int s]/\V4 CC H c v a b xs ys/\v.Ok/\0<=s/\s<=1/\∀n H',B5 H H' ->Y0 CN H' n (C0s v s) ->Q (.ref n) H'
theorem G0y:B0 Q7 Q7 (A4 B2u):=scK
theorem D1u{f f1 f2 CN CN' CC CB CT CW:Addr}{cw:Wy ->Addr}(D:Def K mg "burst" Q7 B2u f fd)(dA:Def K mg "nines" Q7 B1u f1 fd1)(dB:sI P w K mg base 3 f1 fd1 Q7 (C4e CN CC))(dC:Def K mg "end" ["sign"] C2z f2 fd2)(dE:sI P w K mg base 3 f2 fd2 ["sign"] (B9s K CN CN'))(C:A5v P w K mg base CC CB CT CW cw):
   sI P w K mg base 4 f fd Q7 (C4n CN CC):=by
 refine A9.up (D.F.ok G0y (fun vs H Q E h=>?_) (fun cdv A outer s H vs Q E hr h=>?_))
 . obtain⟨c,v,a,b,xs,ys,sg,rfl,_⟩:=h
   rfl
 obtain⟨c,v,a,b,xs,ys,sg,rfl,hc,ok,s0,s1,k⟩:=h
 have hx:G7 (A0v CX0 P w K mg base Q7 "burst" (A4 B2u) f cdv A outer s H E).nox EKF:=Y8
 obtain⟨fW,fdW,mW,gW,bW⟩:=C.way
 obtain⟨fU,fdU,mU,gU,bU⟩:=C.e v.y
 refine⟨_,(A5 (A8 (U1 (V8 (A4g (A0g (pv 0) C.c.cl mW gW hr bW .nil hx) (C.wc v.y).cl mU gU hr bU .nil hx (A0 (pv 1) A1))) (C8 dC dE hr hx (A0 (pv 1) A1)) (C8 dA dB hr hx (A0 (pv 0) (A0 (pv 1) A1)))))),?_⟩
 obtain⟨⟨dx,e⟩,_,_⟩:=id hc
 unfold C0s at k
 refine⟨_,rfl,c,dx,_,rfl,e,A3n _ _ _ _ _ _,c,v.r,v.y,v.l,v.m,a,b,_,_,rfl,hc,fun q dq H1 nq t1 eq=>?_⟩
 refine⟨q,dq,_,rfl,eq,rfl,_,rfl,q,sg,rfl,fun H2 t2=>⟨_,rfl,?_⟩⟩
 have t3:=t1.trans t2
 cases g:v.y.toEnd sg with
 | true=>
   rw[g,if_pos rfl] at k
   exact Y1 ⟨_,rfl,_,rfl,.inl ⟨⟨sg,rfl,s0,s1⟩,fun n H' _ sm num=>k n H' (t3.trans sm) num⟩⟩
 | false=>
   rw[g,if_neg Bool.false_ne_true] at k
   exact V1 ⟨_,rfl,_,rfl,c,v,a,b,xs,ys,sg,rfl,hc.same t3,ok,fun n H' _ sm num=>k n H' (t3.trans sm) num⟩
noncomputable def B3x:Sp:=fun vs H Q _=>∃(pt:Int) (cut:Bool),vs=[.int pt,.bl cut]/\∀l,H l=none ->Q (.ref l) (upd H l (.lst ((A2f pt cut).map V.str)))
theorem C6y:B0 Q27 Q27 (A4 A7y):=scK
theorem C1z(D:Def K mg "signals_of_rest" Q27 A7y f fd):sI P w K mg base 1 f fd Q27 B3x:=by
 refine A9.up (D.F.ok C6y (fun vs H Q E h=>?_) (fun cdv A outer s H vs Q E hr h=>?_))
 . obtain⟨pt,cut,rfl,_⟩:=h
   rfl
 obtain⟨pt,cut,rfl,k⟩:=h
 refine⟨_,(A2 (D7 (B9 B0a (pv 0) A7 (C0 _)) (A5 (A8 (U0 (A0 A3 (A0 A3 A1))))) C6) (A5 (A8 (U1 (V8 (pv 1)) (U0 (A0 A3 A1)) (U0 A1))))),?_⟩
 unfold A2f at k
 refine⟨_,rfl,rfl,_,rfl,?_⟩
 by_cases h0:pt=0
 . subst h0
   rw[if_pos rfl] at k
   refine D0d rfl ⟨_,rfl,_,rfl,?_⟩
   cases cut with
   |true=>exact Y1 ⟨B8 (by decide),k⟩
   |false=>exact V1 ⟨B8 (by decide),k⟩
 rw[if_neg h0] at k
 rw[decide_eq_false (fun q=>h0 (by injection q):¬V.int pt=V.int 0)]
 exact Y1 ⟨B8 (by decide),k⟩
noncomputable def B4y (CC:Addr):Sp:=fun vs H Q _=>∃c v a b xs ys,∃L pt:Int,vs=[.ref c,.int L,.int pt]/\V4 CC H c v a b xs ys/\∀l,H l=none ->Q (.ref l) (upd H l (.lst ((A2h v.l L pt).map V.str)))
theorem C6a:B0 Q28 Q28 (A4 A8d):=scK
theorem C2f{f CC CB CT CW:Addr}{cw:Wy ->Addr}(D:Def K mg "signals_of_lead" Q28 A8d f fd)(C:A5v P w K mg base CC CB CT CW cw):sI P w K mg base 1 f fd Q28 (B4y CC):=by
 refine A9.up (D.F.ok C6a (fun vs H Q E h=>?_) (fun cdv A outer s H vs Q E hr h=>?_))
 . obtain⟨c,v,a,b,xs,ys,L,pt,rfl,_⟩:=h
   rfl
 obtain⟨c,v,a,b,xs,ys,L,pt,rfl,hc,k⟩:=h
 refine⟨_,(A2 (D7 (B9 C4c (pv 1) (D6 (pv 0) rfl) (C0 _)) (A5 (A8 (U0 A1))) C6) (A5 (A8 (U1 (B9 D9 (pv 2) A7 (C0 _)) (U0 (A0 A3 A1)) (U0 (A0 A3 (A0 A3 A1))))))),?_⟩
 obtain⟨⟨dx,e⟩,_,_⟩:=id hc
 unfold A2h at k
 refine⟨_,rfl,_,rfl,c,CC,dx,_,_,rfl,e,C.c.cl,C.c.n_least,A5b _ _ _ _ _ _,_,_,rfl,rfl,_,rfl,U6 (fun h=>?_) (fun h=>?_)⟩
 . rw[if_pos h] at k
   exact⟨B8 (by decide),k⟩
 rw[if_neg h] at k
 refine⟨_,rfl,rfl,_,rfl,U6 (fun h=>?_) (fun h=>?_)⟩
 . rw[if_pos (by injection h)] at k
   exact⟨B8 (by decide),k⟩
 rw[if_neg fun q=>h (congrArg V.int q)] at k
 exact⟨B8 (by decide),k⟩
noncomputable def A7g (CN CC:Addr):Sp:=fun vs H Q _=>∃c v a b xs ys,∃s i:Int,vs=[.ref c,.int s,.int i]/\V4 CC H c v a b xs ys/\∀n H',H n=none ->B5 H H' ->Y0 CN H' n ⟨.plain,s,0,J1m (C7t i (v.l-v.r+1)) v.m⟩ ->Q (.ref n) H'
theorem D0k:B0 Q9 Q9 (A4 A3j):=scK
theorem C7a{f fI CN CC CB CT CW:Addr}{cw:Wy ->Addr}{fd fdI:FuncData}(D:Def K mg "nought" Q9 A3j f fd)(C:A5v P w K mg base CC CB CT CW cw)(N:Num K mg CN)(M:B0g P w K mg base CN fI fdI)(O:Own mg):sI P w K mg base 3 f fd Q9 (A7g CN CC):=by
 refine A9.up (D.F.ok D0k (fun vs H Q E h=>?_) (fun cdv A outer s H vs Q E hr h=>?_))
 . obtain⟨c,v,a,b,xs,ys,sg,i,rfl,_⟩:=h
   rfl
 obtain⟨c,v,a,b,xs,ys,sg,i,rfl,hc,k⟩:=h
 have hx:G7 (A0v CX0 P w K mg base Q9 "nought" (A4 A3j) f cdv A outer s H E).nox EKF:=Y8
 obtain⟨fL,fdL,mL,gL,bL⟩:=C.low
 refine⟨_,(A5 (A8 (A5y M.m (A9.up M.g) hr N.g M.b .nil hx (A0 A3 (A0 (pv 1) (A0 A7 (A0 (U2 (B3z rfl) (by rfl) O.min_ boot_min (A0 (U2 (A5d rfl) (by rfl) O.max_ boot_max (A0 (pv 2) (A0 (A0g (pv 0) C.c.cl mL gL hr bL .nil hx) A1))) (A0 (D6 (pv 0) rfl) A1))) A1))))))),?_⟩
 obtain⟨⟨dx,e⟩,_,_⟩:=id hc
 exact⟨_,rfl,_,rfl,_,rfl,c,dx,_,rfl,e,A2k _ _ _ _ _ _,c,v.r,v.y,v.l,v.m,a,b,_,_,rfl,hc,_,_,rfl,_,rfl,c,CC,dx,_,_,rfl,e,C.c.cl,C.c.n_most,A4e _ _ _ _ _ _,_,_,rfl,B4p k⟩
noncomputable abbrev A4w:Stmt:=(top 32)
theorem B9f(i:Int):∀(n:Nat) (f p:Int),0<=f ->0<=(strip i n f p).1/\(strip i n f p).1<=f
 |0,f,p,h=>⟨h,Int.le_refl _⟩
 | n +1,f,p,h=>by
   show 0<=(if f % 10=0 then strip i n (f/10) (p+1) else(f,p)).1/\(if f % 10=0 then strip i n (f/10) (p+1) else(f,p)).1<=f
   by_cases z:f % 10=0
   . rw[if_pos z]
     have:=B9f i n (f/10) (p+1) (by omega)
     omega
   . rw[if_neg z]
     exact⟨h,Int.le_refl _⟩
theorem C8v{t b u1 v1 u2 v2 d:Nat}(h:t*10^u1<10*(b*10^v1))(e:u2+v1<=u1+v2+d):t*10^u2<10^(d+1)*(b*10^v2):=by
 have p:0<10^v1:=Nat.pow_pos (by decide)
 apply Nat.lt_of_mul_lt_mul_right (a:=10^v1)
 calc t*10^u2*10^v1=t*10^(u2+v1):=by rw[Nat.mul_assoc, <-Nat.pow_add]
   _<=t*10^(u1+v2+d):=Nat.mul_le_mul_left t (Nat.pow_le_pow_right (by decide) e)
   _=t*10^u1*(10^v2*10^d):=by rw[Nat.mul_assoc, <-Nat.pow_add, <-Nat.pow_add,Nat.add_assoc]
   _<10*(b*10^v1)*(10^v2*10^d):=Nat.mul_lt_mul_of_pos_right h (Nat.mul_pos (Nat.pow_pos (by decide)) (Nat.pow_pos (by decide)))
   _=10^(d+1)*(b*10^v2)*10^v1:=by rw[Nat.pow_succ];ac_rfl
theorem G3a{t b s1 s2 r:Int}(ht:Sz t)(hb:Sz b)(h:A0x t b s1)(hr:1<=r)(e:s2<=s1+(r-1)):0<=whI t b s2/\whI t b s2<C7 r:=by
 obtain⟨tn,rfl,_,_⟩:=ht.nat
 obtain⟨bn,rfl,b1,_⟩:=hb.nat
 have lp:0<(bn:Int)*C7 (-s2):=Int.mul_pos (by omega) (Y2 _)
 refine⟨Int.ediv_nonneg (Int.mul_nonneg (by omega) (Int.le_of_lt (Y2 _))) (Int.le_of_lt lp),?_⟩
 refine Int.ediv_lt_of_lt_mul lp ?_
 have a:tn*10^s1.toNat<10*(bn*10^(-s1).toNat):=Int.ofNat_lt.mp h.2
 have c:=C8v (u2:=s2.toNat) (v2:=(-s2).toNat) (d:=(r-1).toNat) a (by
   have x1:=Int.toNat_sub_toNat_neg s1
   have x2:=Int.toNat_sub_toNat_neg s2
   have x3:=Int.toNat_of_nonneg (show 0<=r-1 by omega)
   clear a lp h
   generalize s1.toNat=A at*
   generalize (-s1).toNat=B at*
   generalize s2.toNat=C at*
   generalize (-s2).toNat=D at*
   generalize (r-1).toNat=E at*
   omega)
 rw[show(r-1).toNat+1=r.toNat by omega] at c
 exact Int.ofNat_lt.mpr c
theorem D9q{r:Int}(h:r<=24):C7 r<=10^24:=by
 unfold C7
 have:10^r.toNat<=10^24:=Nat.pow_le_pow_right (by decide) (by omega)
 exact Int.ofNat_le.mpr this
theorem C1a{c:Cv}{s wh pt q i:Int}(ok:c.Ok)(h0:0<=wh)(h1:wh<C7 c.r):(A2v c s wh pt q i).1.natAbs<2^300:=by
 have t:=D9q ok.r2
 have big:((10^24:Nat):Int)=10^24:=by decide+kernel
 have lt:∀z:Int,0<=z ->z<=10^24 ->z.natAbs<2^300:=fun z a b=>Nat.lt_of_le_of_lt (show z.natAbs<=10^24 by omega) (by decide+kernel)
 unfold A2v
 split
 . have:=B9f i (i-q).toNat wh q h0
   exact lt _ this.1 (by unfold A1x;omega)
 have hu:0<=upI c.y s wh pt/\upI c.y s wh pt<=C7 c.r:=by
   have e:upI c.y s wh pt=wh+1\/upI c.y s wh pt=wh:=by
     unfold upI
     generalize (if pt=0 then false else c.y.goes s (wh % 10) pt)=g
     cases g with
     |true=>exact .inl rfl
     |false=>exact .inr rfl
   omega
 generalize upI c.y s wh pt=u at hu
 unfold B9a
 split
 . exact lt (u/10) (by omega) (by omega)
 exact lt u (by omega) (by omega)
noncomputable def B8h (CC CR:Addr):Sp:=fun vs H Q _=>∃c v a b xs ys x,∃t bo n L:Int,vs=[.ref c,.ref x]/\V4 CC H c v a b xs ys/\A8m CR H x t bo n/\Sz t/\Sz bo/\A0x t bo (n-L)/\∀H',B5 H H' ->Q (.int (C7t (L-v.r+1) (v.l-v.r+1))) H'
theorem D2x:B0 Q21 Q21 (A4 A8g):=scK
theorem C6f{f CC CB CT CW CR CE g1 g2:Addr}{cw:Wy ->Addr}(D:Def K mg "finest_power" Q21 A8g f fd)(C:A5v P w K mg base CC CB CT CW cw)(RM:G8y P w K mg base CR g1 g2 gd1 gd2)(R:B9y K mg CR CE)(O:Own mg):sI P w K mg base 5 f fd Q21 (B8h CC CR):=by
 refine A9.up (D.F.ok D2x (fun vs H Q E h=>?_) (fun cdv A outer s H vs Q E hr h=>?_))
 . obtain⟨c,v,a,b,xs,ys,x,t,bo,n,L,rfl,_⟩:=h
   rfl
 obtain⟨c,v,a,b,xs,ys,x,t,bo,n,L,rfl,hc,ra,ht,hb,hL,k⟩:=h
 have hx:G7 (A0v CX0 P w K mg base Q21 "finest_power" (A4 A8g) f cdv A outer s H E).nox EKF:=Y8
 obtain⟨fL,fdL,mL,gL,bL⟩:=C.low
 refine⟨_,(A5 (A8 (U2 (A5d rfl) (by rfl) O.max_ boot_max (A0 (D4 A0w (D4 A0k (A0g (pv 1) R.cl RM.m1 RM.g1 hr RM.b1 .nil hx) (D6 (pv 0) rfl)) A7) (A0 (A0g (pv 0) C.c.cl mL gL hr bL .nil hx) A1))))),?_⟩
 obtain⟨dr,er⟩:=id ra
 refine⟨_,rfl,x,dr,_,rfl,er,A6t _ _ _,x,t,bo,n,rfl,ra,ht,hb,fun f H1 s1 ld=>?_⟩
 have ef:f=L:=by
   have:=C4w (show 0<bo by have:=hb.1;omega) ld hL
   omega
 subst ef
 have hc1:=hc.same s1
 obtain⟨⟨dx,e⟩,_,_⟩:=id hc1
 exact⟨_,rfl,c,CC,dx,_,_,rfl,e,C.c.cl,C.c.n_room,A1y _ _ _ _ _ _,_,_,rfl,rfl,_,_,rfl,rfl,_,rfl,c,dx,_,rfl,e,A2k _ _ _ _ _ _,c,v.r,v.y,v.l,v.m,a,b,_,_,rfl,hc1,_,_,rfl,k H1 s1⟩
noncomputable def Cv.fin (v:Cv) (L:Int):Int:=C7t (L-v.r+1) (v.l-v.r+1)
noncomputable def B0q (v:Cv) (s t bo n L i:Int):Nm×List Str:=C4v v s (whI t bo (n-v.fin L)) (ptI t bo (n-v.fin L)) L (v.fin L) i
noncomputable def B6b (CC:Addr) (H:Hp) (c:Addr) (a':Addr):Prop:=∀z,H z≠none ->(∃v a b xs ys,V4 CC H c v a b xs ys/\a≠z) ->a'≠z
theorem B8r{CC:Addr}{H:Hp}{c a':Addr}(h:H a'=none):B6b CC H c a':=fun z hz _ e=>hz (e▸h)
theorem V4.uniq{CC:Addr}{H:Hp}{c:Addr}{v v0:Cv}{a a0 b b0:Addr}{xs ys xs0 ys0:List Str}(h:V4 CC H c v a b xs ys)(h0:V4 CC H c v0 a0 b0 xs0 ys0):a0=a:=by
 obtain⟨⟨dx,e⟩,_,_⟩:=h
 obtain⟨⟨d0,e0⟩,_,_⟩:=h0
 rw[e] at e0
 injection e0 with e0
 injection e0 with _ _ e0
 have q:=A5s (.int v.r) (.str v.y.name) (.int v.l) (.int v.m) (.ref a) (.ref b)
 rw[e0,A5s] at q
 injection q with q
 injection q with q
theorem J6k{CC:Addr}{H:Hp}{c:Addr}{v:Cv}{a b:Addr}{xs ys:List Str}(h:V4 CC H c v a b xs ys):B6b CC H c a:=fun z _ ⟨_,_,_,_,_,h0,n⟩=>by rw[<-h.uniq h0];exact n
theorem C5u{CC:Addr}{H H1:Hp}{c a':Addr}(s:B5 H H1)(n:B6b CC H1 c a'):B6b CC H c a':=fun z hz ⟨v,a,b,xs,ys,h,e⟩=>n z (fun q=>hz (s.free q)) ⟨v,a,b,xs,ys,h.same s,e⟩
noncomputable def A3a (CN CC CT:Addr) (H:Hp) (c:Addr) (v:Cv) (b:Addr) (xs ys:List Str) (res:Nm×List Str) (Q:VK) (E:XK):Prop:=
 (hit ys res.2=none ->∀m a' H',B6b CC H c a' ->Exc c H H' ->V4 CC H' c v a' b (Z2 (xs++res.2)) ys ->Y0 CN H' m res.1 ->Q (.ref m) H')/\
 (∀z,hit ys res.2=some z ->∀a' d H',B6b CC H c a' ->Exc c H H' ->V4 CC H' c v a' b (Z2 (xs++res.2)) ys ->H' d=some (.xd [("signal",.str z)]) ->E (.ref CT) (some d) H')
noncomputable def A5r (CN CC CT CR:Addr):Sp:=fun vs H Q E=>∃c v a b xs ys x,∃t bo n L s i:Int,vs=[.ref c,.int s,.ref x,.int i]/\V4 CC H c v a b xs ys/\v.Ok/\xs.length<=900/\A8m CR H x t bo n/\Sz t/\Sz bo/\A0x t bo (n-L)/\ -1500<=n-v.fin L/\n-v.fin L<=1500/\0<=s/\s<=1/\
 A3a CN CC CT H c v b xs ys (B0q v s t bo n L i) Q E
theorem scSettled:B0 ["context","sign","exact","ideal","finest","pair","number","names"] Q22 (A4 A4w):=scK
theorem C6p:∀z∈(Q42:List Str),z∈A1j:=by decide+kernel
theorem D2z{pt:Int}{cut:Bool}{l L:Int}:∀z∈A2f pt cut++A2h l L pt,z∈A1j:=by
 have r:∀z∈A2f pt cut,z∈A1j:=by
   unfold A2f
   split
   . split
     . decide+kernel
     . decide+kernel
   . decide+kernel
 have d:∀z∈A2h l L pt,z∈A1j:=by
   unfold A2h
   split
   . decide+kernel
   . split
     . decide+kernel
     . decide+kernel
 intro z hz
 rcases List.mem_append.mp hz with h|h
 . exact r z h
 exact d z h
theorem D0c{pt:Int}{cut:Bool}{l L:Int}:(A2f pt cut++A2h l L pt).length<=4:=by
 have r:(A2f pt cut).length<=2:=by
   unfold A2f
   split
   . split<;>decide
   . decide
 have d:(A2h l L pt).length<=2:=by
   unfold A2h
   split
   . decide
   . split<;>decide
 rw[List.length_append]
 omega
theorem C1m{f f1 f2 f3 f4 f5 f6 f7 f8 CN CC CB CT CW CR CE g1 g2:Addr}{cw:Wy ->Addr}(D:Def K mg "settled" Q22 A4w f fd)
   (dA:Def K mg "finest_power" Q21 A8g f1 fd1) (dB:sI P w K mg base 5 f1 fd1 Q21 (B8h CC CR)) (dC:Def K mg "nearest_to" Q17 A4y f2 fd2) (dE:sI P w K mg base 3 f2 fd2 Q17 (B3t CN))
   (dF:Def K mg "neighbour" Q18 A1t f3 fd3) (dG:sI P w K mg base 3 f3 fd3 Q18 (B0c CC)) (dH:Def K mg "within_room" Q19 A7e f4 fd4) (dJ:sI P w K mg base 3 f4 fd4 Q19 (B8z CN CC))
   (dL:Def K mg "is_beyond" Q20 A6y f5 fd5) (dM:sI P w K mg base 2 f5 fd5 Q20 (B9m CN CC)) (dN:Def K mg "burst" Q7 B2u f6 fd6) (dP:sI P w K mg base 4 f6 fd6 Q7 (C4n CN CC))
   (dQ:Def K mg "signals_of_rest" Q27 A7y f7 fd7) (dS:sI P w K mg base 1 f7 fd7 Q27 B3x) (dU:Def K mg "signals_of_lead" Q28 A8d f8 fd8) (dW:sI P w K mg base 1 f8 fd8 Q28 (B4y CC))
   (C:A5v P w K mg base CC CB CT CW cw) (RM:G8y P w K mg base CR g1 g2 gd1 gd2) (R:B9y K mg CR CE) (N:Num K mg CN):sI P w K mg base 6 f fd Q22 (A5r CN CC CT CR):=by
 refine D.F.okE scSettled (fun vs H Q E h=>?_) (fun X cdv A outer s H vs Q E hX hr hx h=>?_)
 . obtain⟨c,v,a,b,xs,ys,x,t,bo,n,L,sg,i,rfl,_⟩:=h
   rfl
 subst hX
 obtain⟨c,v,a,b,xs,ys,x,t,bo,n,L,sg,i,rfl,hc,ok,lx,ra,ht,hb,hL,q0,q1,s0,s1,k⟩:=h
 obtain⟨fR,fdR,mR,gR,bR⟩:=C.raised
 refine⟨_,(A2 (B7 (D3 (i:=4) scSettled.nd rfl (Or.inl rfl) (C8 dA dB hr hx (A0 (pv 0) (A0 (pv 2) A1))))) (A2 (B7 (D3 (i:=5) scSettled.nd rfl (Or.inl rfl) (A4g (pv 2) R.cl RM.m2 RM.g2 hr RM.b2 .nil hx (A0 (pv 4) A1)))) (A2 (B7 (D7 (B9 D9 (V3 A0h (pv 5) A7 (fun _ _=>rfl)) A7 (C0 _)) (A5 (D3 (i:=6) scSettled.nd rfl (Or.inl rfl) (C8 dC dE hr hx (A0 (pv 3) (A0 (pv 1) (A0 (V3 A0h (pv 5) A7 (fun _ _=>rfl)) (A0 (pv 4) A1))))))) (A5 (D3 (i:=6) scSettled.nd rfl (Or.inl rfl) (C8 dH dJ hr hx (A0 (pv 0) (A0 (pv 1) (A0 (C8 dF dG hr hx (A0 (pv 0) (A0 (pv 1) (A0 (pv 5) A1)))) (A0 (pv 4) A1))))))))) (A2 (B7 (D7 (V8 (C8 dL dM hr hx (A0 (pv 0) (A0 (pv 6) A1)))) (A2 (U5 (A4g (pv 0) C.c.cl mR gR hr bR .nil hx (A0 (U0 (A0 A3 (A0 A3 (A0 A3 A1)))) A1))) (A5 (A8 (C8 dN dP hr hx (A0 (pv 0) (A0 (pv 1) A1)))))) C6)) (A2 (B7 (D3 (i:=7) scSettled.nd rfl (Or.inl rfl) (C8 dQ dS hr hx (A0 (V3 A0h (pv 5) A7 (fun _ _=>rfl)) (A0 (V2 A8c (D6 (pv 6) rfl) (pv 3) (C0 _)) A1))))) (A2 (B7 (U5 (A4g (pv 0) C.c.cl mR gR hr bR .nil hx (A0 (D4 Z5 (pv 7) (C8 dU dW hr hx (A0 (pv 0) (A0 (A0g (pv 2) R.cl RM.m1 RM.g1 hr RM.b1 .nil hx) (A0 (V3 A0h (pv 5) A7 (fun _ _=>rfl)) A1))))) A1)))) (A5 (A8 (pv 6))))))))),?_⟩
 have b0:0<bo:=by have:=hb.1;omega
 have wr:=G3a (s2:=n-v.fin L) ht hb hL ok.r1 (by
   unfold Cv.fin C7t
   split<;>omega)
 unfold B0q C4v at k
 refine⟨fun σ' H'=>B5 H H'/\σ'=[sr c,si sg,sr x,si i,si (v.fin L),none,none,none],?_,?_⟩
 . exact⟨_,rfl,_,rfl,c,v,a,b,xs,ys,x,t,bo,n,L,rfl,hc,ra,ht,hb,hL,fun H' s'=>⟨s',rfl⟩⟩
 rintro σ' H1 ⟨t1,rfl⟩
 have hc1:=hc.same t1
 have ra1:=ra.same t1
 generalize v.fin L=q at*
 generalize hwh:whI t bo (n-q)=wh at*
 generalize hpt:ptI t bo (n-q)=pt at*
 refine⟨fun σ' H'=>∃p,B5 H1 H'/\H' p=some (.tup [.int wh,.int pt])/\σ'=[sr c,si sg,sr x,si i,si q,sr p,none,none],?_,?_⟩
 . obtain⟨dr,er⟩:=id ra1
   refine⟨_,rfl,x,dr,_,rfl,er,B4s _ _ _,_,rfl,x,t,bo,n,q,rfl,ra1,ht,hb,q0,q1,fun p H' s' np ep=>⟨p,s',?_,rfl⟩⟩
   rw[hwh,hpt] at ep
   exact ep
 rintro σ' H2 ⟨p,t2,hp,rfl⟩
 have hc2:=hc1.same t2
 have sm:=C1a (s:=sg) (pt:=pt) (q:=q) (i:=i) ok wr.1 wr.2
 refine⟨fun σ' H'=>∃m,B5 H2 H'/\H2 m=none/\Y0 CN H' m ⟨.plain,sg,(A2v v sg wh pt q i).1,(A2v v sg wh pt q i).2⟩/\σ'=[sr c,si sg,sr x,si i,si q,sr p,sr m,none],?_,?_⟩
 . refine⟨_,rfl,p,_,_,_,rfl,rfl,SqT.of hp,G5 (j:=1) rfl,rfl,_,rfl,U6 (fun h=>?_) (fun h=>?_)⟩
   . have h:pt=0:=by injection h
     refine⟨_,rfl,_,rfl,_,rfl,p,_,_,_,rfl,rfl,SqT.of hp,G5 (j:=0) rfl,_,rfl,i,sg,wh,q,rfl,fun m H' nm s' num=>⟨m,s',nm,?_,rfl⟩⟩
     unfold A2v
     rw[if_pos h]
     exact num
   . have h:¬pt=0:=fun z=>h (congrArg V.int z)
     refine⟨_,rfl,_,rfl,_,rfl,_,rfl,_,rfl,c,v,a,b,xs,ys,p,sg,wh,pt,rfl,hc2,hp,fun H3 s3=>?_⟩
     refine⟨_,rfl,c,v,a,b,xs,ys,sg,_,q,rfl,hc2.same s3,ok,fun m H' nm s' num=>⟨m,s3.trans s',s3.free nm,?_,rfl⟩⟩
     unfold A2v
     rw[if_neg h]
     exact num
 rintro σ' H3 ⟨m,t3,nm,num,rfl⟩
 have hc3:=hc2.same t3
 have tA:=(t1.trans t2).trans t3
 have nmc:m≠c:=fun z=>by
   obtain⟨⟨dx,e⟩,_,_⟩:=hc2
   rw[z,e] at nm
   cases nm
 obtain⟨⟨dx,e3⟩,_,_⟩:=id hc3
 generalize hf:(A2v v sg wh pt q i).1=fg at*
 generalize hg:(A2v v sg wh pt q i).2=pw at*
 refine⟨fun σ' H'=>H'=H3/\A6w v.m fg pw=false/\σ'=[sr c,si sg,sr x,si i,si q,sr p,sr m,none],?_,?_⟩
 . refine⟨_,rfl,_,rfl,c,v,a,b,xs,ys,m,_,rfl,hc3,num,sm,_,rfl,?_⟩
   cases e:A6w v.m fg pw with
   |false=>exact V1 ⟨rfl,rfl,rfl⟩
   | true=>
     rw[e,if_pos rfl] at k
     refine Y1 ⟨_,rfl,c,dx,_,rfl,e3,A0q _ _ _ _ _ _,B8 (by decide),fun l nl=>?_⟩
     have u:=B5.upd (o:= .lst [.str "burst",.str "off",.str "cut"]) nl
     refine⟨c,v.r,v.y,v.l,v.m,a,b,xs,ys,.ref l,rfl,hc3.same u,by omega,.inl ⟨l,Q42,rfl,A6,by decide,C6p,fun hn a' H4 x4 na ct=>?_,fun z hz a' d H4 x4 na ct nd ed=>?_⟩⟩
     . refine⟨_,rfl,_,rfl,c,v,a',b,_,ys,sg,rfl,ct,ok,s0,s1,fun m' H5 s5 num5=>k.1 hn m' a' H5 (B8r ((tA.trans u).free na)) (((Exc.of (tA.trans u)).trans x4).trans (.of s5)) (V4.same ct s5) num5⟩
     . exact k.2 z hz a' d H4 (B8r ((tA.trans u).free na)) ((Exc.of (tA.trans u)).trans x4) ct ed
 rintro σ' H4 ⟨rfl,e,rfl⟩
 rw[e,if_neg Bool.false_ne_true] at k
 refine⟨fun σ' H'=>∃l,B5 H4 H'/\H' l=some (.lst ((A2f pt (decide (pw>i))).map V.str))/\σ'=[sr c,si sg,sr x,si i,si q,sr p,sr m,sr l],?_,?_⟩
 . obtain⟨dn,en⟩:=id num
   exact⟨_,rfl,p,_,_,_,rfl,rfl,SqT.of (t3 _ _ hp),G5 (j:=1) rfl,_,rfl,m,CN,dn,_,_,rfl,en,N.cl,N.n4,B3j _ _ _ _,_,rfl,_,_,rfl,rfl,pt,_,rfl,fun l nl=>⟨l,B5.upd nl,A6,rfl⟩⟩
 rintro σ' H5 ⟨l,t5,hl,rfl⟩
 refine⟨fun σ' H'=>hit ys (A2f pt (decide (pw>i))++A2h v.l L pt)=none/\∃a',H a'=none/\Exc c H H'/\V4 CC H' c v a' b (Z2 (xs++(A2f pt (decide (pw>i))++A2h v.l L pt))) ys/\Y0 CN H' m ⟨.plain,sg,fg,pw⟩/\σ'=[sr c,si sg,sr x,si i,si q,sr p,sr m,sr l],?_,?_⟩
 . have ra5:=((ra1.same t2).same t3).same t5
   obtain⟨dr,er⟩:=id ra5
   have hc5:=hc3.same t5
   refine⟨_,rfl,c,dx,_,rfl,t5 _ _ e3,A0q _ _ _ _ _ _,_,rfl,_,rfl,_,rfl,x,dr,_,rfl,er,A6t _ _ _,x,t,bo,n,rfl,ra5,ht,hb,fun f H6 t6 ld=>?_⟩
   have ef:f=L:=by
     have:=C4w b0 ld hL
     omega
   subst ef
   refine⟨_,rfl,p,_,_,_,rfl,rfl,SqT.of ((t5.trans t6) _ _ (t3 _ _ hp)),G5 (j:=1) rfl,c,v,a,b,xs,ys,f,pt,rfl,hc5.same t6,fun l2 nl2=>?_⟩
   have u2:=B5.upd (o:= .lst ((A2h v.l f pt).map V.str)) nl2
   have rl:=D0c (pt:=pt) (cut:=decide (pw>i)) (l:=v.l) (L:=f)
   rw[List.length_append] at rl
   refine⟨l,l2,_,_,rfl,rfl,(t6.trans u2) _ _ hl,A6,B8 (by rw[List.length_map,List.length_map];omega),fun l3 nl3=>?_⟩
   have u3:=B5.upd (o:= .lst ((A2f pt (decide (pw>i))).map V.str++(A2h v.l f pt).map V.str)) nl3
   have tB:=(t6.trans u2).trans u3
   have num7:=(num.same t5).same tB
   obtain⟨dn7,en7⟩:=id num7
   have keep:∀{H':Hp},Exc c _ H' ->Y0 CN H' m ⟨.plain,sg,fg,pw⟩:=fun x7=>⟨dn7,x7 _ _ en7 nmc⟩
   refine⟨c,v.r,v.y,v.l,v.m,a,b,xs,ys,.ref l3,rfl,(hc5.same tB),by omega,.inl ⟨l3,A2f pt (decide (pw>i))++A2h v.l f pt,rfl,by rw[A6,List.map_append],by rw[List.length_append];omega,D2z,fun hn a' H8 x8 na ct=>?_,fun z hz a' d H8 x8 na ct nd ed=>?_⟩⟩
   . exact⟨hn,a',(tA.trans (t5.trans tB)).free na,(Exc.of (tA.trans (t5.trans tB))).trans x8,ct,keep x8,rfl⟩
   . exact k.2 z hz a' d H8 (B8r ((tA.trans (t5.trans tB)).free na)) ((Exc.of (tA.trans (t5.trans tB))).trans x8) ct ed
 rintro σ' H6 ⟨hn,a',na6,x6,ct,num6,rfl⟩
 exact⟨_,rfl,k.1 hn m a' H6 (B8r na6) x6 ct num6⟩
theorem B9r{v:Cv}{L n:Int}(ok:v.Ok)(h1: -1000<=n-L)(h2:n-L<=1000)(n1: -400<=n)(n2:n<=400): -1500<=n-v.fin L/\n-v.fin L<=1500:=by
 have:=ok.r1;have:=ok.r2;have:=ok.l1;have:=ok.l2
 unfold Cv.fin C7t
 split<;>omega
theorem B1z{t b s:Int}(ht:Sz t)(hb:Sz b)(h:A0x t b s): -1000<=s/\s<=1000:=by
 have e:=Y2 1000
 refine⟨?_,?_⟩
 . apply Classical.byContradiction
   intro hs
   have z:C7 s=1:=by unfold C7;rw[show s.toNat=0 by omega];rfl
   have g:C7 1000<=C7 (-s):=A7n (by omega)
   have a:=h.1
   rw[z,Int.mul_one] at a
   have:1*C7 (-s)<=b*C7 (-s):=Int.mul_le_mul_of_nonneg_right hb.1 (Int.le_of_lt (Y2 _))
   have:=ht.2
   omega
 apply Classical.byContradiction
 intro hs
 have z:C7 (-s)=1:=by unfold C7;rw[show(-s).toNat=0 by omega];rfl
 have g:C7 1001<=C7 s:=A7n (by omega)
 have e1:C7 1001=10*C7 1000:=by
   unfold C7
   rw[show(1001:Int).toNat=(1000:Int).toNat+1 by decide,Nat.pow_succ,Nat.mul_comm]
   rfl
 have a:=h.2
 rw[z,Int.mul_one] at a
 have:1*C7 s<=t*C7 s:=Int.mul_le_mul_of_nonneg_right ht.1 (Int.le_of_lt (Y2 _))
 have:=hb.2
 omega
theorem C9m:Sz 1:=⟨by decide,by
 have:C7 1<=C7 1000:=A7n (by decide)
 have e:C7 1=10:=rfl
 omega⟩
theorem D1t{f:Int}(h0:0<=f)(h:f≠0)(h1:f<=10^60-1):Sz f:=by
 refine⟨by omega,?_⟩
 have:C7 60<=C7 1000:=A7n (by decide)
 have e:C7 60=10^60:=by decide+kernel
 omega
noncomputable def C3p:Nm:=⟨.none,0,0,0⟩
noncomputable def B0v (v:Cv) (s i:Int):Nm:=⟨.plain,s,0,J1m (C7t i (v.l-v.r+1)) v.m⟩
theorem A3a.same{CN CC CT:Addr}{H H1:Hp}{c:Addr}{v:Cv}{b:Addr}{xs ys:List Str}{res:Nm×List Str}{Q:VK}{E:XK}(k:A3a CN CC CT H c v b xs ys res Q E)(s:B5 H H1):A3a CN CC CT H1 c v b xs ys res Q E:=
 ⟨fun hn m a' H' nw x=>k.1 hn m a' H' (C5u s nw) ((Exc.of s).trans x),fun z hz a' d H' nw x=>k.2 z hz a' d H' (C5u s nw) ((Exc.of s).trans x)⟩
theorem G1u(tr:List Str):hit tr []=none:=by
 unfold hit
 rw[List.find?_eq_none]
 simp
theorem A3a.calm{CN CC CT:Addr}{H H1:Hp}{c n a:Addr}{v:Cv}{b:Addr}{xs ys:List Str}{x:Nm}{Q:VK}{E:XK}(k:A3a CN CC CT H c v b xs ys (x,[]) Q E)(ox:Z2 xs=xs)(s:B5 H H1)(hc:V4 CC H c v a b xs ys)(hn:Y0 CN H1 n x):Q (.ref n) H1:=
 k.1 (G1u _) n a H1 (J6k hc) (Exc.of s) (by show V4 CC H1 c v a b (Z2 (xs++ [])) ys;rw[List.append_nil,ox];exact hc.same s) hn
deriving instance DecidableEq for Kd
theorem D9n(n:Nat)(h:1<=n):∃L:Nat,10^L<=n/\n<10^(L+1):=by
 induction n using Nat.strongRecOn with
 | ind n ih=>
   by_cases h10:n<10
   . exact⟨0,by simpa using h,by simpa using h10⟩
   . obtain⟨L,a,b⟩:=ih (n/10) (by omega) (by omega)
     refine⟨L+1,?_,?_⟩
     . rw[Nat.pow_succ];omega
     . rw[Nat.pow_succ];omega
theorem G1y{n j:Nat}(h1:n<10^(j+1))(h2:10^j<=n):C1p (n:Int)=(j:Int)+1:=by
 unfold C1p
 have e:(Str.ofString (toString (n:Int))).length=(Nat.toDigits 10 n).length:=by
   have:=congrArg List.length (KIN.signs_num n)
   rw[List.length_map] at this
   rw[<-this];rfl
 rw[e]
 have a:(Nat.toDigits 10 n).length<=j+1:=digits10_le (by omega) h1
 have b:j+1<=(Nat.toDigits 10 n).length:=digits10_ge h2
 omega
noncomputable abbrev A8h:Stmt:=(top 19)
theorem A9.never{P:Program}{w:World}{K:Frag}{mg:Str ->Option Value}{base:Heap}{CX:CXT}{k:Nat}{ps:List Str}:A9 P w K mg base CX k f fd ps (fun _ _ _ _=>False):=⟨fun _ _ _ _ h=>h.elim,fun _ _ _ _ _ _ _ _ _ _ _ _ _ h=>h.elim⟩
noncomputable def A9k (a b:Int):Int:=if a=b then 0 else 1
theorem D4b(a b:Int):0<=A9k a b/\A9k a b<=1:=by unfold A9k;split<;>decide
noncomputable def Two (CN:Addr) (H:Hp) (n1 n2:Addr) (x1 x2:Nm):Prop:=Y0 CN H n1 x1/\Y0 CN H n2 x2
theorem Two.same{CN:Addr}{H H':Hp}{n1 n2:Addr}{x1 x2:Nm}(h:Two CN H n1 n2 x1 x2)(e:B5 H H'):Two CN H' n1 n2 x1 x2:=⟨h.1.same e,h.2.same e⟩
noncomputable def B2j (CN:Addr):Sp:=fun vs H Q _=>∃n1 n2 x1 x2,vs=[.ref n1,.ref n2]/\Two CN H n1 n2 x1 x2/\Q (.int (A9k x1.s x2.s)) H
theorem D0w:B0 Q8 Q8 (A4 A8h):=scK
theorem C6w{f CN:Addr}(D:Def K mg "unlike_sign" Q8 A8h f fd)(N:Num K mg CN):sI P w K mg base 1 f fd Q8 (B2j CN):=by
 refine D.F.okE D0w (fun vs H Q E h=>?_) (fun X cdv A outer s H vs Q E hX hr hx h=>?_)
 . obtain⟨n1,n2,x1,x2,rfl,_⟩:=h
   rfl
 subst hX
 obtain⟨n1,n2,x1,x2,rfl,⟨⟨d1,e1⟩,⟨d2,e2⟩⟩,k⟩:=h
 refine⟨_,(A5 (A8 (U1 (B9 B0a (D6 (pv 0) rfl) (D6 (pv 1) rfl) (C0 _)) A7 A7))),?_⟩
 refine⟨_,rfl,n1,CN,d1,_,_,rfl,e1,N.cl,N.n2,B7d _ _ _ _,_,rfl,n2,CN,d2,_,_,rfl,e2,N.cl,N.n2,B7d _ _ _ _,rfl,_,rfl,?_⟩
 unfold A9k at k
 by_cases h:x1.s=x2.s
 . rw[if_pos h] at k
   exact D0d (congrArg V.int h) k
 rw[if_neg h] at k
 rw[decide_eq_false (fun z=>h (by injection z):¬V.int x1.s=V.int x2.s)]
 exact Y1 k
theorem B9n{z:Str}{n1 n2:Addr}{x1 x2:Nm}(h1:x1.k= .plain)(h2:x2.k= .plain)(hz:Kd.plain.str≠z):([(n1,x1),(n2,x2)].any fun p=>decide (p.2.k.str=z))=false:=by
 simp[h1,h2,hz]
theorem A4h{CN:Addr}{H:Hp}{l n1 n2:Addr}{x1 x2:Nm}(h:Two CN H n1 n2 x1 x2)(hl:H l=some (.lst [.ref n1,.ref n2])):D4j CN H l [(n1,x1),(n2,x2)]:=⟨hl,List.forall_mem_cons.2 ⟨h.1,List.forall_mem_cons.2 ⟨h.2,by simp⟩⟩⟩
noncomputable abbrev C5s:Stmt:=(top 43)
noncomputable abbrev B5y:Stmt:=(top 44)
noncomputable abbrev C5c:Stmt:=(top 73)
noncomputable abbrev C5m:Stmt:=(top 74)
noncomputable def G5r (v:Cv) (x1 x2:Nm) (i:Int):Nm×List Str:=
 if x1.k= .end_ then(if x2.k= .end_ then(C3p,["void"]) else(⟨.end_,A9k x1.s x2.s,0,0⟩,[]))
 else if x2.k= .end_ then(B0v v (A9k x1.s x2.s) i,[]) else if x1.f=0 then(C3p,["void"]) else(⟨.end_,A9k x1.s x2.s,0,0⟩,["split"])
noncomputable def A1m (x1 x2:Nm):Prop:=x1.k= .plain/\x2.k= .plain/\x2.f≠0
noncomputable instance (x1 x2:Nm):Decidable (A1m x1 x2):=by unfold A1m;exact inferInstance
noncomputable def C9c (CN CC CT:Addr):Sp:=fun vs H Q E=>∃c v a b xs ys,vs=[.ref c]/\V4 CC H c v a b xs ys/\xs.length<=900/\A3a CN CC CT H c v b xs ys (C3p,["void"]) Q E
theorem G7u:B0 ["context"] ["context"] (A4 C5s):=scK
theorem G2r{f f1 CN CC CB CT CW:Addr}{cw:Wy ->Addr}(D:Def K mg "void" ["context"] C5s f fd)(dA:Def K mg "nothing" [] A1z f1 fd1)(dB:sI P w K mg base 3 f1 fd1 [] (A2u CN))(C:A5v P w K mg base CC CB CT CW cw):sI P w K mg base 4 f fd ["context"] (C9c CN CC CT):=by
 refine D.F.okE G7u (fun vs H Q E h=>?_) (fun X cdv A outer s H vs Q E hX hr hx h=>?_)
 . obtain⟨c,v,a,b,xs,ys,rfl,_⟩:=h
   rfl
 subst hX
 obtain⟨c,v,a,b,xs,ys,rfl,hc,lx,k⟩:=h
 obtain⟨fR,fdR,mR,gR,bR⟩:=C.raised
 refine⟨_,(A2 (U5 (A4g (pv 0) C.c.cl mR gR hr bR .nil hx (A0 (U0 (A0 A3 A1)) A1))) (A5 (A8 (B5k dA dB hr hx)))),?_⟩
 have z1:1<=sizeLine:=B8 (by decide)
 obtain⟨dx,e⟩:=hc.ins
 refine⟨_,rfl,c,dx,_,rfl,e,A0q _ _ _ _ _ _,z1,fun p np=>?_⟩
 have u:=B5.upd (o:= .lst [.str "void"]) np
 refine⟨c,v.r,v.y,v.l,v.m,a,b,xs,ys,_,rfl,hc.same u,by omega,.inl ⟨p,["void"],rfl,A6,by decide,by decide+kernel,fun hn a' H' x na ct=>?_,fun t ht a' d H' x na ct nd ed=>?_⟩⟩
 . exact⟨rfl,fun n H2 nn s2 num=>k.1 hn n a' H2 (B8r (u.free na)) ((Exc.of u).trans (x.trans (Exc.of s2))) (A0u.same ct s2) num⟩
 exact k.2 t ht a' d H' (B8r (u.free na)) ((Exc.of u).trans x) ct ed
noncomputable def C3u (CN CC CT:Addr):Sp:=fun vs H Q E=>∃c v a b xs ys,∃sg:Int,vs=[.ref c,.int sg]/\V4 CC H c v a b xs ys/\xs.length<=900/\0<=sg/\sg<=1/\A3a CN CC CT H c v b xs ys (⟨.end_,sg,0,0⟩,["split"]) Q E
theorem G1j:B0 Q7 Q7 (A4 B5y):=scK
theorem D0r{f f1 CN CC CB CB' CT CW:Addr}{cw:Wy ->Addr}(D:Def K mg "split_to_end" Q7 B5y f fd)(dA:Def K mg "end" ["sign"] C2z f1 fd1)(dB:sI P w K mg base 3 f1 fd1 ["sign"] (B9s K CN CB'))(C:A5v P w K mg base CC CB CT CW cw):sI P w K mg base 4 f fd Q7 (C3u CN CC CT):=by
 refine D.F.okE G1j (fun vs H Q E h=>?_) (fun X cdv A outer s H vs Q E hX hr hx h=>?_)
 . obtain⟨c,v,a,b,xs,ys,sg,rfl,_⟩:=h
   rfl
 subst hX
 obtain⟨c,v,a,b,xs,ys,sg,rfl,hc,lx,s0,s1,k⟩:=h
 obtain⟨fR,fdR,mR,gR,bR⟩:=C.raised
 refine⟨_,(A2 (U5 (A4g (pv 0) C.c.cl mR gR hr bR .nil hx (A0 (U0 (A0 A3 A1)) A1))) (A5 (A8 (C8 dA dB hr hx (A0 (pv 1) A1))))),?_⟩
 have z1:1<=sizeLine:=B8 (by decide)
 obtain⟨dx,e⟩:=hc.ins
 refine⟨_,rfl,c,dx,_,rfl,e,A0q _ _ _ _ _ _,z1,fun p np=>?_⟩
 have u:=B5.upd (o:= .lst [.str "split"]) np
 refine⟨c,v.r,v.y,v.l,v.m,a,b,xs,ys,_,rfl,hc.same u,by omega,.inl ⟨p,["split"],rfl,A6,by decide,by decide+kernel,fun hn a' H' x na ct=>?_,fun t ht a' d H' x na ct nd ed=>?_⟩⟩
 . exact⟨_,rfl,_,rfl,.inl ⟨⟨sg,rfl,s0,s1⟩,fun n H2 nn s2 num=>k.1 hn n a' H2 (B8r (u.free na)) ((Exc.of u).trans (x.trans (Exc.of s2))) (A0u.same ct s2) num⟩⟩
 exact k.2 t ht a' d H' (B8r (u.free na)) ((Exc.of u).trans x) ct ed
noncomputable def C9u (CN:Addr):Sp:=fun vs H Q _=>∃n1 n2 x1 x2,vs=[.ref n1,.ref n2]/\Two CN H n1 n2 x1 x2/\Q (.bl (decide (A1m x1 x2))) H
theorem G8h:B0 Q8 Q8 (A4 C5c):=scK
theorem G1e{f CN:Addr}(D:Def K mg "has_plain_quotient" Q8 C5c f fd)(N:Num K mg CN):sI P w K mg base 1 f fd Q8 (C9u CN):=by
 refine D.F.okE G8h (fun vs H Q E h=>?_) (fun X cdv A outer s H vs Q E hX hr hx h=>?_)
 . obtain⟨n1,n2,x1,x2,rfl,_⟩:=h
   rfl
 subst hX
 obtain⟨n1,n2,x1,x2,rfl,⟨⟨d1,e1⟩,⟨d2,e2⟩⟩,k⟩:=h
 refine⟨_,(A5 (A8 (A6e (V2 D9 (D6 (pv 0) rfl) A3 (C0 _)) (A6e (V2 D9 (D6 (pv 1) rfl) A3 (C0 _)) (A6f (V2 B0a (D6 (pv 1) rfl) A7 (C0 _))))))),?_⟩
 refine⟨_,rfl,n1,CN,d1,_,_,rfl,e1,N.cl,N.n1,B3n _ _ _ _,rfl,_,rfl,U6 (fun h=>?_) (fun h=>?_)⟩
 . have h1:x1.k= .plain:=eqS (b:= .plain) h
   refine⟨_,rfl,n2,CN,d2,_,_,rfl,e2,N.cl,N.n1,B3n _ _ _ _,rfl,_,rfl,U6 (fun h'=>?_) (fun h'=>?_)⟩
   . have h2:x2.k= .plain:=eqS (b:= .plain) h'
     refine⟨_,rfl,n2,CN,d2,_,_,rfl,e2,N.cl,N.n3,B3f _ _ _ _,rfl,?_⟩
     by_cases hf:x2.f=0
     . rw[decide_eq_false (fun z=>z.2.2 hf:¬A1m x1 x2)] at k
       rw[decide_eq_true (congrArg V.int hf)]
       exact k
     . have hp:A1m x1 x2:=⟨h1,h2,hf⟩
       rw[decide_eq_true hp] at k
       rw[decide_eq_false (fun z=>hf (V.int.inj z):¬V.int x2.f=V.int 0)]
       exact k
   . rw[decide_eq_false (fun z=>h' (by rw[z.2.1];rfl):¬A1m x1 x2)] at k
     exact k
 rw[decide_eq_false (fun z=>h (by rw[z.1];rfl):¬A1m x1 x2)] at k
 exact k
noncomputable def D3v (CN CC CT:Addr):Sp:=fun vs H Q E=>∃c v a b xs ys n1 n2 x1 x2,∃i:Int,vs=[.ref c,.ref n1,.ref n2,.int i]/\V4 CC H c v a b xs ys/\v.Ok/\xs.length<=900/\Z2 xs=xs/\Two CN H n1 n2 x1 x2/\A3a CN CC CT H c v b xs ys (G5r v x1 x2 i) Q E
theorem scOddQ:B0 ["context","one","other","ideal","sign"] Q34 (A4 C5m):=scK
theorem G1n{f f1 f2 f3 f4 f5 CN CC CB' CT:Addr}(D:Def K mg "odd_quotient" Q34 C5m f fd)(dC:Def K mg "unlike_sign" Q8 A8h f1 fd1)(dE:sI P w K mg base 1 f1 fd1 Q8 (B2j CN))
   (dA:Def K mg "void" ["context"] C5s f2 fd2) (dB:sI P w K mg base 4 f2 fd2 ["context"] (C9c CN CC CT)) (dF:Def K mg "end" ["sign"] C2z f3 fd3) (dG:sI P w K mg base 3 f3 fd3 ["sign"] (B9s K CN CB'))
   (dH:Def K mg "nought" Q9 A3j f4 fd4) (dJ:sI P w K mg base 3 f4 fd4 Q9 (A7g CN CC)) (dL:Def K mg "split_to_end" Q7 B5y f5 fd5) (dM:sI P w K mg base 4 f5 fd5 Q7 (C3u CN CC CT)) (N:Num K mg CN):
   sI P w K mg base 5 f fd Q34 (D3v CN CC CT):=by
 refine D.F.okE scOddQ (fun vs H Q E h=>?_) (fun X cdv A outer s H vs Q E hX hr hx h=>?_)
 . obtain⟨c,v,a,b,xs,ys,n1,n2,x1,x2,i,rfl,_⟩:=h
   rfl
 subst hX
 obtain⟨c,v,a,b,xs,ys,n1,n2,x1,x2,i,rfl,hc,ok,lx,ox,tw,k⟩:=h
 refine⟨_,(A2 (D3 (i:=4) scOddQ.nd rfl (Or.inl rfl) (C8 dC dE hr hx (A0 (pv 1) (A0 (pv 2) A1)))) (A2 (D7 (B9 D9 (D6 (pv 1) rfl) A3 (C0 _)) (A5 (A8 (U1 (B9 D9 (D6 (pv 2) rfl) A3 (C0 _)) (C8 dA dB hr hx (A0 (pv 0) A1)) (C8 dF dG hr hx (A0 (pv 4) A1))))) C6) (A2 (D7 (B9 D9 (D6 (pv 2) rfl) A3 (C0 _)) (A5 (A8 (C8 dH dJ hr hx (A0 (pv 0) (A0 (pv 4) (A0 (pv 3) A1)))))) C6) (A5 (A8 (U1 (B9 D9 (D6 (pv 1) rfl) A7 (C0 _)) (C8 dA dB hr hx (A0 (pv 0) A1)) (C8 dL dM hr hx (A0 (pv 0) (A0 (pv 4) A1))))))))),?_⟩
 have us:=D4b x1.s x2.s
 unfold G5r at k
 refine⟨_,rfl,_,rfl,n1,n2,x1,x2,rfl,tw,?_⟩
 obtain⟨⟨d1,e1⟩,⟨d2,e2⟩⟩:=id tw
 refine⟨_,rfl,n1,CN,d1,_,_,rfl,e1,N.cl,N.n1,B3n _ _ _ _,rfl,_,rfl,U6 (fun h=>?_) (fun h=>?_)⟩
 . have h1:x1.k= .end_:=eqS (b:= .end_) h
   rw[if_pos h1] at k
   refine⟨_,rfl,n2,CN,d2,_,_,rfl,e2,N.cl,N.n1,B3n _ _ _ _,rfl,_,rfl,U6 (fun h'=>?_) (fun h'=>?_)⟩
   . have h2:x2.k= .end_:=eqS (b:= .end_) h'
     rw[if_pos h2] at k
     exact⟨_,rfl,c,v,a,b,xs,ys,rfl,hc,lx,k⟩
   . have h2:x2.k≠ .end_:=neS (b:= .end_) h'
     rw[if_neg h2] at k
     exact⟨_,rfl,_,rfl,.inl ⟨⟨_,rfl,us.1,us.2⟩,fun n H' nn s' num=>k.calm ox s' hc num⟩⟩
 have h1:x1.k≠ .end_:=neS (b:= .end_) h
 rw[if_neg h1] at k
 refine⟨_,rfl,n2,CN,d2,_,_,rfl,e2,N.cl,N.n1,B3n _ _ _ _,rfl,_,rfl,U6 (fun h'=>?_) (fun h'=>?_)⟩
 . have h2:x2.k= .end_:=eqS (b:= .end_) h'
   rw[if_pos h2] at k
   exact⟨_,rfl,_,rfl,_,rfl,c,v,a,b,xs,ys,A9k x1.s x2.s,i,rfl,hc,fun n H' nn s' num=>k.calm ox s' hc num⟩
 have h2:x2.k≠ .end_:=neS (b:= .end_) h'
 rw[if_neg h2] at k
 refine⟨_,rfl,n1,CN,d1,_,_,rfl,e1,N.cl,N.n3,B3f _ _ _ _,rfl,_,rfl,U6 (fun h3=>?_) (fun h3=>?_)⟩
 . have h3:x1.f=0:=V.int.inj h3
   rw[if_pos h3] at k
   exact⟨_,rfl,c,v,a,b,xs,ys,rfl,hc,lx,k⟩
 have h3:¬x1.f=0:=fun z=>h3 (congrArg V.int z)
 rw[if_neg h3] at k
 exact⟨_,rfl,_,rfl,c,v,a,b,xs,ys,_,rfl,hc,lx,us.1,us.2,k⟩
theorem C9d{n1 n2:Addr}{x1 x2:Nm}:([(n1,x1),(n2,x2)].any fun p=>decide (p.2.k.str=("none":Str)))=decide (x1.k= .none\/x2.k= .none):=by
 have q:∀k:Kd,decide (k.str=("none":Str))=decide (k= .none):=fun k=>by cases k<;>decide+kernel
 simp[q]
noncomputable abbrev C4t:Stmt:=(top 70)
noncomputable def C5a (v:Cv) (x1 x2:Nm) (L:Int):Nm×List Str:=
 if x1.k= .none\/x2.k= .none then(C3p,[])
 else if A1m x1 x2 then(if x1.f=0 then(B0v v (A9k x1.s x2.s) (x1.p-x2.p),[]) else B0q v (A9k x1.s x2.s) x1.f x2.f (x1.p-x2.p) L (x1.p-x2.p))
 else G5r v x1 x2 (v.l-v.r+1)
noncomputable def D0u (CN CC CT:Addr):Sp:=fun vs H Q E=>∃c v a b xs ys n1 n2 x1 x2 L,vs=[.ref c,.ref n1,.ref n2]/\V4 CC H c v a b xs ys/\v.Ok/\xs.length<=900/\Z2 xs=xs/\Two CN H n1 n2 x1 x2/\x1.Ok/\x2.Ok/\
 (A1m x1 x2 ->x1.f≠0 ->A0x x1.f x2.f (x1.p-x2.p-L))/\A3a CN CC CT H c v b xs ys (C5a v x1 x2 L) Q E
theorem scOver:B0 ["context","one","other","sign","ideal"] Q4 (A4 C4t):=scK
theorem G1c{f f1 f2 f3 f4 f5 f6 f7 f8 fR CN CC CB CB' CT CW CR CE:Addr}{cw:Wy ->Addr}{fd fd1 fd2 fd3 fd4 fd5 fd6 fd7 fd8 fdR:FuncData}{d0:Value}{gP:List Value ->List Value ->List Value}{vP:List V ->List V ->List V}(D:Def K mg "over" Q4 C4t f fd)(dA:Def K mg "need_numbers" ["things"] A7d f1 fd1)(dB:sI P w K mg base 2 f1 fd1 ["things"] (B1w K CN CB'))
   (dC:Def K mg "some_of_kind" Q12 A8w f2 fd2) (dE:sI P w K mg base 1 f2 fd2 Q12 (B1b CN)) (dF:Def K mg "has_plain_quotient" Q8 C5c f3 fd3) (dG:sI P w K mg base 1 f3 fd3 Q8 (C9u CN))
   (dH:Def K mg "odd_quotient" Q34 C5m f4 fd4) (dJ:sI P w K mg base 5 f4 fd4 Q34 (D3v CN CC CT)) (dL:Def K mg "unlike_sign" Q8 A8h f5 fd5) (dM:sI P w K mg base 1 f5 fd5 Q8 (B2j CN)) (dN:Def K mg "nought" Q9 A3j f6 fd6) (dP:sI P w K mg base 3 f6 fd6 Q9 (A7g CN CC))
   (dQ:Def K mg "settled" Q22 A4w f7 fd7) (dS:sI P w K mg base 6 f7 fd7 Q22 (A5r CN CC CT CR)) (dU:Def K mg "nothing" [] A1z f8 fd8) (dW:sI P w K mg base 3 f8 fd8 [] (A2u CN))
   (C:A5v P w K mg base CC CB CT CW cw) (N:Num K mg CN) (MR:D4h P w K mg base CR fR fdR d0 gP vP) (R:B9y K mg CR CE):sI P w K mg base 7 f fd Q4 (D0u CN CC CT):=by
 refine D.F.okE scOver (fun vs H Q E h=>?_) (fun X cdv A outer s H vs Q E hX hr hx h=>?_)
 . obtain⟨c,v,a,b,xs,ys,n1,n2,x1,x2,L,rfl,_⟩:=h
   rfl
 subst hX
 obtain⟨c,v,a,b,xs,ys,n1,n2,x1,x2,L,rfl,hc,ok,lx,ox,tw,o1,o2,hL,k⟩:=h
 obtain⟨fL,fdL,mL,gL,bL⟩:=C.low
 refine⟨_,(A2 (U5 (C8 dA dB hr hx (A0 (U0 (A0 (pv 1) (A0 (pv 2) A1))) A1))) (A2 (D7 (V8 (C8 dC dE hr hx (A0 (U0 (A0 (pv 1) (A0 (pv 2) A1))) (A0 A3 A1)))) (A5 (A8 (B5k dU dW hr hx))) C6) (A2 (D7 (A1k (V8 (C8 dF dG hr hx (A0 (pv 1) (A0 (pv 2) A1))))) (A5 (A8 (C8 dH dJ hr hx (A0 (pv 0) (A0 (pv 1) (A0 (pv 2) (A0 (A0g (pv 0) C.c.cl mL gL hr bL .nil hx) A1))))))) C6) (A2 (D3 (i:=3) scOver.nd rfl (Or.inl rfl) (C8 dL dM hr hx (A0 (pv 1) (A0 (pv 2) A1)))) (A2 (D3 (i:=4) scOver.nd rfl (Or.inl rfl) (D4 A0k (D6 (pv 1) rfl) (D6 (pv 2) rfl))) (A2 (D7 (B9 D9 (D6 (pv 1) rfl) A7 (C0 _)) (A5 (A8 (C8 dN dP hr hx (A0 (pv 0) (A0 (pv 3) (A0 (pv 4) A1)))))) C6) (A5 (A8 (C8 dQ dS hr hx (A0 (pv 0) (A0 (pv 3) (A0 (A5y MR.m MR.g hr R.g MR.b3 .nil hx (A0 (D6 (pv 1) rfl) (A0 (D6 (pv 2) rfl) (A0 (pv 4) A1)))) (A0 (pv 4) A1))))))))))))),?_⟩
 have z2:2<=sizeLine:=B8 (by decide)
 unfold C5a at k
 refine⟨_,rfl,_,rfl,z2,fun l nl=>?_⟩
 have u:=B5.upd (o:= .lst [.ref n1,.ref n2]) nl
 refine⟨l,[(n1,x1),(n2,x2)],rfl,(A4h (tw.same u) A6).n,.inl ⟨A6,?_⟩⟩
 refine⟨_,rfl,_,rfl,z2,fun l2 nl2=>?_⟩
 have u2:=u.trans (B5.upd (o:= .lst [.ref n1,.ref n2]) nl2)
 refine⟨l2,_,_,rfl,A4h (tw.same u2) A6,(by show 2<=1000;decide),fun H3 s3=>⟨_,rfl,?_⟩⟩
 rw[C9d]
 have sm3:=u2.trans s3
 have tw3:=tw.same sm3
 have hc3:=hc.same sm3
 refine U6 (fun hn=>?_) (fun hn=>?_)
 . rw[if_pos hn] at k
   exact⟨rfl,fun n H' nn s' num=>k.calm ox (sm3.trans s') hc num⟩
 rw[if_neg hn] at k
 refine⟨_,rfl,_,rfl,n1,n2,x1,x2,rfl,tw3,_,rfl,?_⟩
 by_cases hq:A1m x1 x2
 . rw[if_pos hq] at k
   rw[decide_eq_true hq]
   refine V1 ?_
   refine⟨_,rfl,_,rfl,n1,n2,x1,x2,rfl,tw3,?_⟩
   obtain⟨⟨d1,e1⟩,⟨d2,e2⟩⟩:=id tw3
   refine⟨_,rfl,n1,CN,d1,_,_,rfl,e1,N.cl,N.n4,B3j _ _ _ _,_,rfl,n2,CN,d2,_,_,rfl,e2,N.cl,N.n4,B3j _ _ _ _,_,_,rfl,rfl,?_⟩
   refine⟨_,rfl,n1,CN,d1,_,_,rfl,e1,N.cl,N.n3,B3f _ _ _ _,rfl,_,rfl,U6 (fun hf=>?_) (fun hf=>?_)⟩
   . have hf:x1.f=0:=V.int.inj hf
     rw[if_pos hf] at k
     exact⟨_,rfl,_,rfl,_,rfl,c,v,a,b,xs,ys,A9k x1.s x2.s,x1.p-x2.p,rfl,hc3,fun n H' nn s' num=>k.calm ox (sm3.trans s') hc num⟩
   . have hf:¬x1.f=0:=fun z=>hf (congrArg V.int z)
     rw[if_neg hf] at k
     have f10:=o1.f0;have f11:=o1.f1;have f20:=o2.f0;have f21:=o2.f1
     have p10:=o1.p0;have p11:=o1.p1;have p20:=o2.p0;have p21:=o2.p1
     have z1:Sz x1.f:=D1t f10 hf f11
     have z3:Sz x2.f:=D1t f20 hq.2.2 f21
     have hl:=hL hq hf
     have ls:=B1z z1 z3 hl
     have fn:=B9r (v:=v) ok ls.1 ls.2 (by omega) (by omega)
     refine⟨_,rfl,_,rfl,_,rfl,n1,CN,d1,_,_,rfl,e1,N.cl,N.n3,B3f _ _ _ _,_,rfl,n2,CN,d2,_,_,rfl,e2,N.cl,N.n3,B3f _ _ _ _,_,rfl,fun q dq m1 m2 me=>C8y m1 m2 me fun H4 s4 ra=>⟨rfl,?_⟩⟩
     have sm4:=sm3.trans s4
     have us:=D4b x1.s x2.s
     exact⟨_,rfl,c,v,a,b,xs,ys,q,x1.f,x2.f,x1.p-x2.p,L,A9k x1.s x2.s,x1.p-x2.p,rfl,hc.same sm4,ok,lx,ra,z1,z3,hl,fn.1,fn.2,us.1,us.2,k.same sm4⟩
 rw[if_neg hq] at k
 rw[decide_eq_false hq]
 refine Y1 ?_
 obtain⟨dx,e⟩:=hc3.ins
 refine⟨_,rfl,_,rfl,_,rfl,_,rfl,c,dx,_,rfl,e,A2k _ _ _ _ _ _,c,v.r,v.y,v.l,v.m,a,b,_,_,rfl,hc3,?_⟩
 exact⟨c,v,a,b,xs,ys,n1,n2,x1,x2,_,rfl,hc3,ok,lx,ox,tw3,k.same sm3⟩
noncomputable abbrev B6q:Stmt:=(top 103)
noncomputable abbrev B6m:Stmt:=(top 105)
noncomputable abbrev C5k:Stmt:=(top 96)
noncomputable def A2s (x y:Nm):Int:=if y.p<x.p then y.p else x.p
noncomputable def A7b (x y:Nm):Int:=x.wh (A2s x y)+y.wh (A2s x y)
noncomputable def D3f (t:Int):Int:=if t<0 then -t else t
noncomputable def B6x (t:Int):Int:=if t<0 then 1 else 0
noncomputable def J7y:Wy ->Int
 | .floor=>1
 |_=>0
noncomputable def B4n (y:Wy) (a b:Int):Int:=if a=b then a else J7y y
noncomputable def J2p (v:Cv) (s f p i:Int):Nm×List Str:=if f=0 then(B0v v s i,[]) else B0q v s f 1 p (p+C1p f-1) i
noncomputable def D2p (v:Cv) (x y:Nm):Nm×List Str:=if A7b x y=0 then(B0v v (B4n v.y x.s y.s) (A2s x y),[]) else J2p v (B6x (A7b x y)) (D3f (A7b x y)) (A2s x y) (A2s x y)
theorem G3r(x y:Nm):A2s x y<=x.p/\A2s x y<=y.p/\(A2s x y=x.p\/A2s x y=y.p):=by
 unfold A2s
 split<;>omega
theorem J3t{x:Nm}{q:Int}(h:x.Bg)(e:x.p-q<=800): -(C7 920)<=x.wh q/\x.wh q<=C7 920:=by
 have tp:=Y2 (x.p-q)
 have a:x.f*C7 (x.p-q)<=C7 120*C7 800:=Int.mul_le_mul (Int.le_of_lt h.f1) (A7n (by omega)) (Int.le_of_lt tp) (Int.le_of_lt (Y2 _))
 have b:C7 120*C7 800=C7 920:=by decide+kernel
 have c:0<=x.f*C7 (x.p-q):=Int.mul_nonneg h.f0 (Int.le_of_lt tp)
 unfold Nm.wh
 split<;>omega
theorem G5x{t:Int}(h:t≠0)(a: -(2*C7 920)<=t)(b:t<=2*C7 920):Sz (D3f t):=by
 have c:2*C7 920<C7 1000:=by decide+kernel
 unfold D3f
 constructor<;>split<;>omega
theorem G6h{x y:Nm}(hx:x.Bg)(hy:y.Bg)(h:A7b x y≠0):Sz (D3f (A7b x y)):=by
 obtain⟨m1,m2,m3⟩:=G3r x y
 have:=hx.p0;have:=hx.p1;have:=hy.p0;have:=hy.p1
 have a:=J3t (q:=A2s x y) hx (by omega)
 have b:=J3t (q:=A2s x y) hy (by omega)
 refine G5x h ?_ ?_<;>unfold A7b<;>omega
theorem B8p{f p:Int}(h:Sz f):A0x f 1 (p-(p+C1p f-1)):=by
 obtain⟨n,rfl,h1,_⟩:=h.nat
 obtain⟨j,a,b⟩:=D9n n h1
 rw[G1y b a,show p-(p+((j:Int)+1)-1)= -(j:Int) by omega]
 unfold A0x
 have e1:C7 (-(j:Int))=1:=by unfold C7;rw[show(-(j:Int)).toNat=0 by omega];rfl
 have e2:C7 (-(-(j:Int)))=((10^j:Nat):Int):=by unfold C7;rw[Int.neg_neg,Int.toNat_natCast]
 rw[e1,e2]
 rw[Nat.pow_succ] at b
 constructor<;>omega
theorem C6q{v:Cv}{f p:Int}(ok:v.Ok)(h:Sz f)(p0: -400<=p)(p1:p<=400): -1500<=p-v.fin (p+C1p f-1)/\p-v.fin (p+C1p f-1)<=1500:=by
 have ls:=B1z h C9m (B8p (p:=p) h)
 exact B9r ok ls.1 ls.2 p0 p1
noncomputable def C4r (CN CC:Addr):Sp:=fun vs H Q _=>∃c v a b xs ys n1 n2 x1 x2,vs=[.ref c,.ref n1,.ref n2]/\V4 CC H c v a b xs ys/\Two CN H n1 n2 x1 x2/\∀H',B5 H H' ->Q (.int (B4n v.y x1.s x2.s)) H'
theorem G0v:B0 Q4 Q4 (A4 B6m):=scK
theorem D2r{f CN CC CB CT CW:Addr}{cw:Wy ->Addr}(D:Def K mg "sign_of_no_sum" Q4 B6m f fd)(C:A5v P w K mg base CC CB CT CW cw)(WN:∀y:Wy,G2m P w K mg base (cw y) y.name)(N:Num K mg CN):sI P w K mg base 3 f fd Q4 (C4r CN CC):=by
 refine D.F.okE G0v (fun vs H Q E h=>?_) (fun X cdv A outer s H vs Q E hX hr hx h=>?_)
 . obtain⟨c,v,a,b,xs,ys,n1,n2,x1,x2,rfl,_⟩:=h
   rfl
 subst hX
 obtain⟨c,v,a,b,xs,ys,n1,n2,x1,x2,rfl,hc,⟨⟨d1,e1⟩,⟨d2,e2⟩⟩,k⟩:=h
 obtain⟨fW,fdW,mW,gW,bW⟩:=C.way
 obtain⟨fU,fdU,mU,gU,bU⟩:=WN v.y
 refine⟨_,(A2 (D7 (B9 D9 (D6 (pv 1) rfl) (D6 (pv 2) rfl) (C0 _)) (A5 (A8 (D6 (pv 1) rfl))) C6) (A5 (A8 (U1 (B9 D9 (A0g (A0g (pv 0) C.c.cl mW gW hr bW .nil hx) (C.wc v.y).cl mU gU hr bU .nil hx) A3 (C0 _)) A7 A7)))),?_⟩
 obtain⟨dx,e⟩:=hc.ins
 refine⟨_,rfl,n1,CN,d1,_,_,rfl,e1,N.cl,N.n2,B7d _ _ _ _,_,rfl,n2,CN,d2,_,_,rfl,e2,N.cl,N.n2,B7d _ _ _ _,rfl,_,rfl,U6 (fun h=>?_) (fun h=>?_)⟩
 . have k:=k H (B5.refl _)
   unfold B4n at k
   rw[if_pos (V.int.inj h)] at k
   exact⟨_,rfl,n1,CN,d1,_,_,rfl,e1,N.cl,N.n2,B7d _ _ _ _,k⟩
 refine⟨_,rfl,c,dx,_,rfl,e,A3n _ _ _ _ _ _,c,v.r,v.y,v.l,v.m,a,b,_,_,rfl,hc,fun q dq H1 nq s1 eq=>?_⟩
 have k:=k H1 s1
 have e:B4n v.y x1.s x2.s=(if V.str v.y.name=V.str "floor" then 1 else 0):=by
   unfold B4n
   rw[if_neg fun z=>h (congrArg V.int z)]
   cases v.y<;>decide+kernel
 rw[e] at k
 refine⟨q,dq,_,rfl,eq,rfl,q,rfl,rfl,_,rfl,U6 (fun h=>?_) (fun h=>?_)⟩
 . rw[if_pos h] at k
   exact k
 rw[if_neg h] at k
 exact k
noncomputable def C5j (CN CC CT:Addr):Sp:=fun vs H Q E=>∃c v a b xs ys n1 n2 x1 x2,vs=[.ref c,.ref n1,.ref n2]/\V4 CC H c v a b xs ys/\v.Ok/\xs.length<=900/\Z2 xs=xs/\Two CN H n1 n2 x1 x2/\x1.k= .plain/\x2.k= .plain/\x1.Bg/\x2.Bg/\A3a CN CC CT H c v b xs ys (D2p v x1 x2) Q E
theorem scAdded:B0 ["context","one","other","low","total"] Q4 (A4 B6q):=scK
theorem J3d(t:Int):0<=B6x t/\B6x t<=1:=by unfold B6x;split<;>decide
theorem D0e{f f1 f2 f3 f4 f5 f6 fR CN CC CB CT CW CR CE:Addr}{cw:Wy ->Addr}{fd fd1 fd2 fd3 fd4 fd5 fd6 fdR:FuncData}{d0:Value}{gP:List Value ->List Value ->List Value}{vP:List V ->List V ->List V}{sEA:Stmt}(D:Def K mg "added" Q4 B6q f fd)(dC:Def K mg "some_of_kind" Q12 A8w f1 fd1)(dE:sI P w K mg base 1 f1 fd1 Q12 (B1b CN))
   (dF:Def K mg "end_added" Q4 sEA f2 fd2) (dA:Def K mg "whole_at" Q32 A4d f3 fd3) (dB:sI P w K mg base 3 f3 fd3 Q32 (B4q CN)) (dG:Def K mg "nought" Q9 A3j f4 fd4) (dH:sI P w K mg base 3 f4 fd4 Q9 (A7g CN CC))
   (dJ:Def K mg "sign_of_no_sum" Q4 B6m f5 fd5) (dL:sI P w K mg base 3 f5 fd5 Q4 (C4r CN CC)) (dM:Def K mg "settled" Q22 A4w f6 fd6) (dN:sI P w K mg base 6 f6 fd6 Q22 (A5r CN CC CT CR))
   (C:A5v P w K mg base CC CB CT CW cw) (N:Num K mg CN) (MR:D4h P w K mg base CR fR fdR d0 gP vP) (R:B9y K mg CR CE) (O:Own mg):sI P w K mg base 7 f fd Q4 (C5j CN CC CT):=by
 have G_end_added:sI P w K mg base 1 f2 fd2 Q4 (fun _ _ _ _=>False):=A9.never
 refine D.F.okE scAdded (fun vs H Q E h=>?_) (fun X cdv A outer s H vs Q E hX hr hx h=>?_)
 . obtain⟨c,v,a,b,xs,ys,n1,n2,x1,x2,rfl,_⟩:=h
   rfl
 subst hX
 obtain⟨c,v,a,b,xs,ys,n1,n2,x1,x2,rfl,hc,ok,lx,ox,tw,h1,h2,g1,g2,k⟩:=h
 refine⟨_,(A2 (D7 (V8 (C8 dC dE hr hx (A0 (U0 (A0 (pv 1) (A0 (pv 2) A1))) (A0 A3 A1)))) (A5 (A8 (C8 dF G_end_added hr hx (A0 (pv 0) (A0 (pv 1) (A0 (pv 2) A1)))))) C6) (A2 (D3 (i:=3) scAdded.nd rfl (Or.inl rfl) (U2 (B3z rfl) (by rfl) O.min_ boot_min (A0 (D6 (pv 1) rfl) (A0 (D6 (pv 2) rfl) A1)))) (A2 (D3 (i:=4) scAdded.nd rfl (Or.inl rfl) (D4 A0w (C8 dA dB hr hx (A0 (pv 1) (A0 (pv 3) A1))) (C8 dA dB hr hx (A0 (pv 2) (A0 (pv 3) A1))))) (A2 (D7 (B9 D9 (pv 4) A7 (C0 _)) (A5 (A8 (C8 dG dH hr hx (A0 (pv 0) (A0 (C8 dJ dL hr hx (A0 (pv 0) (A0 (pv 1) (A0 (pv 2) A1)))) (A0 (pv 3) A1)))))) C6) (A5 (A8 (C8 dM dN hr hx (A0 (pv 0) (A0 (U1 (B9 B8x (pv 4) A7 (C0 _)) A7 A7) (A0 (A5y MR.m MR.g hr R.g MR.b3 .nil hx (A0 (U2 B8m (by rfl) O.abs_ boot_abs (A0 (pv 4) A1)) (A0 A7 (A0 (pv 3) A1)))) (A0 (pv 3) A1))))))))))),?_⟩
 have z2:2<=sizeLine:=B8 (by decide)
 refine⟨_,rfl,_,rfl,z2,fun l nl=>?_⟩
 have u:=B5.upd (o:= .lst [.ref n1,.ref n2]) nl
 refine⟨l,_,_,rfl,A4h (tw.same u) A6,(by show 2<=1000;decide),fun H3 s3=>⟨_,rfl,?_⟩⟩
 rw[B9n h1 h2 (by decide+kernel)]
 refine V1 ?_
 have sm3:=u.trans s3
 have tw3:=tw.same sm3
 have hc3:=hc.same sm3
 obtain⟨⟨d1,e1⟩,⟨d2,e2⟩⟩:=id tw3
 obtain⟨m1,m2,m3⟩:=G3r x1 x2
 have:=g1.p0;have:=g1.p1;have:=g2.p0;have:=g2.p1
 refine⟨_,rfl,n1,CN,d1,_,_,rfl,e1,N.cl,N.n4,B3j _ _ _ _,_,rfl,n2,CN,d2,_,_,rfl,e2,N.cl,N.n4,B3j _ _ _ _,_,_,rfl,?_⟩
 show C6e _ _ _ [sr c,sr n1,sr n2,si (A2s x1 x2),none] H3
 refine⟨_,rfl,_,rfl,n1,x1,A2s x1 x2,rfl,tw3.1,g1,by omega,by omega,_,rfl,_,rfl,n2,x2,A2s x1 x2,rfl,tw3.2,g2,by omega,by omega,_,_,rfl,rfl,?_⟩
 show C6e _ _ _ [sr c,sr n1,sr n2,si (A2s x1 x2),si (A7b x1 x2)] H3
 unfold D2p at k
 refine⟨_,rfl,rfl,_,rfl,U6 (fun hf=>?_) (fun hf=>?_)⟩
 . have hf:A7b x1 x2=0:=V.int.inj hf
   rw[if_pos hf] at k
   refine⟨_,rfl,_,rfl,_,rfl,_,rfl,c,v,a,b,xs,ys,n1,n2,x1,x2,rfl,hc3,tw3,fun H4 s4=>?_⟩
   have sm4:=sm3.trans s4
   exact⟨_,rfl,c,v,a,b,xs,ys,B4n v.y x1.s x2.s,A2s x1 x2,rfl,hc.same sm4,fun n H' nn s' num=>k.calm ox (sm4.trans s') hc num⟩
 have hf:¬A7b x1 x2=0:=fun z=>hf (congrArg V.int z)
 rw[if_neg hf] at k
 have sz:=G6h g1 g2 hf
 unfold J2p at k
 rw[if_neg (by have:=sz.1;omega)] at k
 have fn:=C6q (p:=A2s x1 x2) ok sz (by omega) (by omega)
 have nb:=J3d (A7b x1 x2)
 have fin:∀sg:Int,sg=B6x (A7b x1 x2) ->∀q H4,B5 H3 H4 ->A8m CR H4 q (D3f (A7b x1 x2)) 1 (A2s x1 x2) ->A5r CN CC CT CR [.ref c,.int sg,.ref q,.int (A2s x1 x2)] H4 Q E:=fun sg e q H4 s4 ra=>by
   subst e
   have sm4:=sm3.trans s4
   exact⟨c,v,a,b,xs,ys,q,_,1,_,_,_,_,rfl,hc.same sm4,ok,lx,ra,sz,C9m,B8p sz,fn.1,fn.2,nb.1,nb.2,k.same sm4⟩
 refine⟨_,rfl,_,rfl,_,_,rfl,rfl,_,rfl,U6 (fun h=>?_) (fun h=>?_)⟩
 . have e:(1:Int)=B6x (A7b x1 x2):=by unfold B6x;rw[if_pos h]
   exact⟨_,rfl,_,rfl,_,rfl,fun q dq m1 m2 me=>C8y m1 m2 me fun H4 s4 ra=>⟨rfl,_,rfl,fin 1 e q H4 s4 ra⟩⟩
 have e:(0:Int)=B6x (A7b x1 x2):=by unfold B6x;rw[if_neg h]
 exact⟨_,rfl,_,rfl,_,rfl,fun q dq m1 m2 me=>C8y m1 m2 me fun H4 s4 ra=>⟨rfl,_,rfl,fin 0 e q H4 s4 ra⟩⟩
noncomputable def C8x (CN CC CT:Addr):Sp:=fun vs H Q E=>∃c v a b xs ys n1 n2 x1 x2,vs=[.ref c,.ref n1,.ref n2]/\V4 CC H c v a b xs ys/\v.Ok/\xs.length<=900/\Z2 xs=xs/\Two CN H n1 n2 x1 x2/\x1.k= .plain/\x2.k= .plain/\x1.Ok/\x2.Ok/\A3a CN CC CT H c v b xs ys (D2p v x1 x2) Q E
theorem G8r:B0 Q4 Q4 (A4 C5k):=scK
theorem D9y{f f1 f2 f3 f4 CN CC CB' CT:Addr}(D:Def K mg "plus" Q4 C5k f fd)(dA:Def K mg "need_numbers" ["things"] A7d f1 fd1)(dB:sI P w K mg base 2 f1 fd1 ["things"] (B1w K CN CB'))
   (dC:Def K mg "some_of_kind" Q12 A8w f2 fd2) (dE:sI P w K mg base 1 f2 fd2 Q12 (B1b CN)) (dF:Def K mg "nothing" [] A1z f3 fd3) (dG:sI P w K mg base 3 f3 fd3 [] (A2u CN))
   (dH:Def K mg "added" Q4 B6q f4 fd4) (dJ:sI P w K mg base 7 f4 fd4 Q4 (C5j CN CC CT)):sI P w K mg base 8 f fd Q4 (C8x CN CC CT):=by
 refine D.F.okE G8r (fun vs H Q E h=>?_) (fun X cdv A outer s H vs Q E hX hr hx h=>?_)
 . obtain⟨c,v,a,b,xs,ys,n1,n2,x1,x2,rfl,_⟩:=h
   rfl
 subst hX
 obtain⟨c,v,a,b,xs,ys,n1,n2,x1,x2,rfl,hc,ok,lx,ox,tw,h1,h2,o1,o2,k⟩:=h
 refine⟨_,(A2 (U5 (C8 dA dB hr hx (A0 (U0 (A0 (pv 1) (A0 (pv 2) A1))) A1))) (A2 (D7 (V8 (C8 dC dE hr hx (A0 (U0 (A0 (pv 1) (A0 (pv 2) A1))) (A0 A3 A1)))) (A5 (A8 (B5k dF dG hr hx))) C6) (A5 (A8 (C8 dH dJ hr hx (A0 (pv 0) (A0 (pv 1) (A0 (pv 2) A1)))))))),?_⟩
 have z2:2<=sizeLine:=B8 (by decide)
 refine⟨_,rfl,_,rfl,z2,fun l nl=>?_⟩
 have u:=B5.upd (o:= .lst [.ref n1,.ref n2]) nl
 refine⟨l,[(n1,x1),(n2,x2)],rfl,(A4h (tw.same u) A6).n,.inl ⟨A6,?_⟩⟩
 refine⟨_,rfl,_,rfl,z2,fun l2 nl2=>?_⟩
 have u2:=u.trans (B5.upd (o:= .lst [.ref n1,.ref n2]) nl2)
 refine⟨l2,_,_,rfl,A4h (tw.same u2) A6,(by show 2<=1000;decide),fun H3 s3=>⟨_,rfl,?_⟩⟩
 rw[B9n h1 h2 (by decide+kernel)]
 refine V1 ?_
 have sm3:=u2.trans s3
 have tw3:=tw.same sm3
 exact⟨_,rfl,_,rfl,_,rfl,c,v,a,b,xs,ys,n1,n2,x1,x2,rfl,hc.same sm3,ok,lx,ox,tw3,h1,h2,o1.bg,o2.bg,k.same sm3⟩
noncomputable abbrev C4s:Stmt:=(top 134)
noncomputable def C9w (K:Frag):Sp:=fun vs H Q _=>∃a ns k,vs=[.ref a,.int k]/\SqL K H a ((ns:List Int).map V.int)/\0<=k/\∀i,Q (.int i) H
theorem G4z:B0 Q40 Q40 (A4 C4s):=scK
theorem D9r(D:Def K mg "_law_cell_at" Q40 C4s f fd)(O:Own mg):sI P w K mg base 1 f fd Q40 (C9w K):=by
 refine A9.up (D.F.ok G4z (fun vs H Q E h=>?_) (fun cdv A outer s H vs Q E hr h=>?_))
 . obtain⟨a,ns,k,rfl,_⟩:=h
   rfl
 obtain⟨a,ns,i,rfl,hs,h0,k⟩:=h
 refine⟨_,(A2 (D7 (B9 B8x (pv 1) (U2 Y3 (by rfl) O.len_ PySem.boot_len (A0 (pv 0) A1)) (C0 _)) (A5 (A8 (V3 V9 (pv 0) (pv 1) (fun _ _=>rfl)))) C6) (A5 (A8 A7))),?_⟩
 refine⟨_,rfl,_,rfl,a,_,rfl,.inl hs,_,_,rfl,rfl,_,rfl,?_⟩
 refine U6 (fun hlt=>?_) (fun _=>k 0)
 rw[List.length_map] at hlt
 obtain⟨j,rfl⟩:=Int.eq_ofNat_of_zero_le h0
 have hj:j<ns.length:=by omega
 exact⟨_,rfl,_,rfl,a,_,_,_,rfl,rfl,hs,G5 (v:=V.int ns[j]) (by simp[hj]),k _⟩
noncomputable abbrev B5j:Stmt:=(top 135)
noncomputable def C4x:Sp:=fun vs H Q _=>∃c k,vs=[.int c,.int k]/\0<=k/\k<=100/\∀m,0<=m ->m<2147483629 ->Q (.int m) H
theorem G1a:B0 Q41 Q41 (A4 B5j):=scK
theorem C9z(D:Def K mg "_law_mixed" Q41 B5j f fd):sI P w K mg base 1 f fd Q41 C4x:=by
 refine A9.up (D.F.ok G1a (fun vs H Q E h=>?_) (fun cdv A outer s H vs Q E hr h=>?_))
 . obtain⟨c,k,rfl,_⟩:=h
   rfl
 obtain⟨c,i,rfl,h0,h1,k⟩:=h
 refine⟨_,(A5 (A8 (D4 A2q (D4 Z7 (D4 A2q (D4 A0w (D4 A0w (D4 Z7 (pv 0) (D4 A0w A7 (D4 Z7 (D4 Z7 A7 (pv 1)) (pv 1)))) (D4 Z7 A7 (pv 1))) A7) A7) A7) A7))),?_⟩
 have q0:(0:Int)<=2*i*i:=Int.mul_nonneg (by omega) h0
 have q1:2*i*i<=200*100:=Int.mul_le_mul (by omega) h1 h0 (by decide)
 have m1:IntMulOk 2 i:=B7p.ok (.inl ⟨by decide,by decide⟩)
 have m2:IntMulOk (2*i) i:=B7p.ok (.inr ⟨by omega,by omega⟩)
 have m3:IntMulOk c (48271+2*i*i):=B7p.ok (.inr ⟨by omega,by omega⟩)
 have m4:IntMulOk 69621 i:=B7p.ok (.inl ⟨by decide,by decide⟩)
 have m5:∀z:Int,IntMulOk z 69621:=fun z=>B7p.ok (.inr ⟨by decide,by decide⟩)
 refine⟨_,rfl,_,rfl,_,_,rfl,rfl,m1,_,rfl,_,_,rfl,rfl,m2,_,_,rfl,rfl,_,_,rfl,rfl,m3,_,rfl,_,_,rfl,rfl,m4,_,_,rfl,rfl,_,_,rfl,rfl,_,_,rfl,rfl,(by show(0:Int)<2147483647;decide),_,_,rfl,rfl,m5 _,_,_,rfl,rfl,(by show(0:Int)<2147483629;decide),?_⟩
 exact k _ (Int.emod_nonneg _ (by decide)) (Int.emod_lt_of_pos _ (by decide))
noncomputable abbrev A7z:Stmt:=(top 112)
noncomputable abbrev A7j:Stmt:=(top 113)
noncomputable abbrev A8e:Stmt:=(top 118)
noncomputable abbrev A4q:Stmt:=(top 117)
noncomputable abbrev A7q:Stmt:=(top 115)
noncomputable abbrev A3u:Stmt:=(top 116)
noncomputable def A1u (z:Str):Bool:=Txt.startswith z "-"
noncomputable def C3v (z:Str):Bool:=Txt.startswith z "+"||Txt.startswith z "-"
noncomputable def bare (z:Str):Str:=if C3v z=true then B1p z (some 1) none else z
noncomputable def A4a (z:Str):Bool:= !(decide (z=""))&&decide (Txt.stripChars z "0123456789"="")
noncomputable def B3e (z:Str):Int:=((PySem.NumText.digitsVal z.cps.toList:Nat):Int)
noncomputable def C2e (z:Str):Option Int:=if A4a z=true then(if(Txt.lstripChars z "0").length>60 then none else some (B3e z)) else none
noncomputable def shR (z:Str):Option Int:=if A4a (bare z)=true then(if(bare z).length>3 then none else some (if A1u z=true then -B3e (bare z) else B3e (bare z))) else none
theorem G6p:("":Str)=S []:=by decide+kernel
theorem J6s:("0123456789":Str)=S G9a:=by decide+kernel
theorem G4t:("0":Str)=S [48]:=by decide+kernel
theorem G8a:("-":Str)=S [45]:=by decide+kernel
theorem J2q:("+":Str)=S [43]:=by decide+kernel
theorem J8f:("e":Str)=S [101]:=by decide+kernel
theorem D1z:(".":Str)=S [46]:=by decide+kernel
theorem B6a(l:List Nat):A4a (S l)=true↔l≠ []/\PySem.NumText.AllDigits l:=by
 unfold A4a
 rw[G6p,J6s,Bool.and_eq_true,Bool.not_eq_true',decide_eq_false_iff_not,decide_eq_true_iff,C1k]
 constructor
 . rintro⟨h1,h2⟩
   exact⟨fun z=>h1 (by rw[z]),fun c hc=>(B8g c).mp (h2 c hc)⟩
 rintro⟨h1,h2⟩
 exact⟨fun z=>h1 (G3p z),fun c hc=>(B8g c).mpr (h2 c hc)⟩
theorem A8k(z:Str):(bare z).length<=z.length:=by
 unfold bare
 split
 . rename_i h
   rw[<-B1v z] at h ⊢
   generalize z.cps.toList=l at*
   have hl:1<=l.length:=by
     cases l with
     | nil=>
       unfold C3v at h
       rw[J2q,G8a,B7t,B7t] at h
       cases h
     |cons a t=>exact Nat.succ_le_succ (Nat.zero_le _)
   have e:=B1j l 1 hl
   rw[show((1:Nat):Int)=1 from rfl] at e
   rw[e,U9,U9,List.length_drop]
   omega
 exact Nat.le_refl _
noncomputable def B1s:Sp:=fun vs H Q _=>∃z:Str,vs=[.str z]/\Q (.int (if A1u z=true then 1 else 0)) H
theorem C8w:B0 ["word"] ["word"] (A4 A7z):=scK
theorem C7q(D:Def K mg "sign_of" ["word"] A7z f fd):sI P w K mg base 1 f fd ["word"] B1s:=by
 refine D.F.okE C8w (fun vs H Q E h=>?_) (fun X cdv A outer s H vs Q E hX hr hx h=>?_)
 . obtain⟨z,rfl,_⟩:=h
   rfl
 subst hX
 obtain⟨z,rfl,k⟩:=h
 refine⟨_,(A5 (A8 (U1 (V8 (A1q PySem.F.plainAttrs_str PySem.F.slot_str_startswith PySem.F.type_str_startswith A9h (pv 0) (A0 A3 A1))) A7 A7))),?_⟩
 refine⟨_,rfl,rfl,z,_,rfl,rfl,_,rfl,?_⟩
 unfold A1u at k
 cases hb:Txt.startswith z "-" with
 |true=>rw[hb] at k;exact Y1 k
 |false=>rw[hb] at k;exact V1 k
noncomputable def B2g:Sp:=fun vs H Q _=>∃z:Str,vs=[.str z]/\z.length<=1000/\∀H',B5 H H' ->Q (.str (bare z)) H'
theorem D3g:B0 ["word"] ["word"] (A4 A7j):=scK
theorem C5z(D:Def K mg "without_sign" ["word"] A7j f fd):sI P w K mg base 1 f fd ["word"] B2g:=by
 refine D.F.okE D3g (fun vs H Q E h=>?_) (fun X cdv A outer s H vs Q E hX hr hx h=>?_)
 . obtain⟨z,rfl,_⟩:=h
   rfl
 subst hX
 obtain⟨z,rfl,hz,k⟩:=h
 have z2:2<=sizeLine:=B8 (by decide)
 refine⟨_,(A5 (A8 (U1 (V8 (A1q PySem.F.plainAttrs_str PySem.F.slot_str_startswith PySem.F.type_str_startswith C2d (pv 0) (A0 (G6 (A0 A3 (A0 A3 A1))) A1))) (A0m B2x (pv 0) (A1e A7) A1g) (pv 0)))),?_⟩
 refine⟨_,rfl,rfl,z2,fun p np=>⟨z,p,_,_,rfl,rfl,A6,_,rfl,?_⟩⟩
 have k:=k _ (B5.upd (o:= .tup [.str "+",.str "-"]) np)
 have bl:=A8k z
 unfold bare C3v at k bl
 cases hb:(Txt.startswith z "+"||Txt.startswith z "-") with
 | true=>
   rw[hb,if_pos rfl] at k bl
   exact Y1 ⟨_,rfl,1,rfl,z,rfl,B8 (Nat.le_trans bl hz),k⟩
 | false=>
   rw[hb,if_neg Bool.false_ne_true] at k
   exact V1 ⟨_,rfl,k⟩
noncomputable def D1x:Sp:=fun vs H Q _=>∃z:Str,vs=[.str z]/\z.length<=1000/\Q (.bl (A4a z)) H
theorem D2w:B0 ["digits"] ["digits"] (A4 A8e):=scK
theorem B4z(D:Def K mg "are_figures" ["digits"] A8e f fd):sI P w K mg base 1 f fd ["digits"] D1x:=by
 refine D.F.okE D2w (fun vs H Q E h=>?_) (fun X cdv A outer s H vs Q E hX hr hx h=>?_)
 . obtain⟨z,rfl,_⟩:=h
   rfl
 subst hX
 obtain⟨z,rfl,hz,k⟩:=h
 refine⟨_,(A5 (A8 (A6e (V2 B0a (pv 0) A3 (C0 _)) (A6f (V2 D9 (A1q PySem.F.plainAttrs_str PySem.F.slot_str_strip PySem.F.type_str_strip B8b (pv 0) (A0 A3 A1)) A3 (C0 _)))))),?_⟩
 refine⟨_,rfl,rfl,_,rfl,?_⟩
 have ev:∀a b:Str,decide (V.str a=V.str b)=decide (a=b):=fun a b=>decide_eq_decide.mpr ⟨fun z=>by injection z,fun z=>by rw[z]⟩
 unfold A4a at k
 rw[ev]
 cases hb:decide (z="") with
 | true=>
   rw[hb] at k
   exact V1 k
 | false=>
   rw[hb] at k
   refine Y1 ⟨_,rfl,rfl,z,_,rfl,rfl,B8 hz,rfl,?_⟩
   rw[ev]
   exact k
noncomputable def A9f (CB:Addr):Sp:=fun vs H Q E=>∃z:Str,vs=[.str z]/\z.length<=1000/\((A4a z=true/\Q .non H)\/(A4a z=false/\E (.ref CB) none H))
theorem C8f:B0 ["digits"] ["digits"] (A4 A4q):=scK
theorem C0v{f f1 CB:Addr}(D:Def K mg "need_figures" ["digits"] A4q f fd)(dA:Def K mg "are_figures" ["digits"] A8e f1 fd1)(B:Err K mg "NoText" CB):sI P w K mg base 2 f fd ["digits"] (A9f CB):=by
 have G_are_figures:=B4z (P:=P) (w:=w) (base:=base) dA
 refine D.F.okE C8f (fun vs H Q E h=>?_) (fun X cdv A outer s H vs Q E hX hr hx h=>?_)
 . obtain⟨z,rfl,_⟩:=h
   rfl
 subst hX
 obtain⟨z,rfl,hz,h⟩:=h
 refine⟨_,(A5 (D7 (A1k (V8 (C8 dA G_are_figures hr hx (A0 (pv 0) A1)))) (A5 (Y7 (by rfl) B.g B.q PySem.F.excBase_ValueError hr.hd hx (A0 A3 A1))) C6)),?_⟩
 rcases h with⟨hb,k⟩|⟨hb,k⟩
 . refine⟨_,rfl,z,rfl,hz,?_⟩
   rw[hb]
   exact⟨_,rfl,V1 k⟩
 refine⟨_,rfl,z,rfl,hz,?_⟩
 rw[hb]
 exact⟨_,rfl,Y1 ⟨B8 (by show 1<=1000;decide),k⟩⟩
theorem C1t(z:Str):(Txt.lstripChars z "0").length<=z.length:=by
 rw[<-B1v z,G4t,B2r,U9,U9]
 exact(List.dropWhile_suffix _).length_le
theorem J7f{z:Str}(h:A4a z=true)(hl:(Txt.lstripChars z "0").length<=60):PySem.intText? (("0":Str)++Txt.lstripChars z "0")=some (B3e z):=by
 unfold B3e
 rw[<-B1v z] at h hl ⊢
 generalize z.cps.toList=l at*
 have d:=((B6a l).mp h).2
 rw[G4t,B2r] at hl ⊢
 rw[U9] at hl
 rw[A5x,A2c]
 have e:PySem.NumText.digitsVal (S ([48]++l.dropWhile ([48]:List Nat).contains)).cps.toList=PySem.NumText.digitsVal l:=by
   rw[A2c]
   exact(B3u 1 _).trans (B9d l)
 rw[<-e]
 refine PySem.intText_digits ?_ ?_ ?_
 . rw[A2c]
   intro c hc
   rcases List.mem_append.mp hc with hc|hc
   . rw[List.mem_singleton.mp hc]
     decide
   . exact d c ((List.dropWhile_suffix _).mem hc)
 . rw[A2c]
   exact fun z=>nomatch z
 rw[U9,List.length_append]
 show 1+_<=4300
 omega
noncomputable def B4j (CB:Addr):Sp:=fun vs H Q E=>∃z:Str,vs=[.str z]/\z.length<=1000/\((∃n,C2e z=some n/\Q (.int n) H)\/(C2e z=none/\E (.ref CB) none H))
theorem scFigRead:B0 ["digits","counted"] ["digits"] (A4 A7q):=scK
theorem C3a{f f1 CB:Addr}(D:Def K mg "figures_read" ["digits"] A7q f fd)(dA:Def K mg "need_figures" ["digits"] A4q f1 fd1)(dB:sI P w K mg base 2 f1 fd1 ["digits"] (A9f CB))(B:Err K mg "NoText" CB)(O:Own mg):sI P w K mg base 3 f fd ["digits"] (B4j CB):=by
 refine D.F.okE scFigRead (fun vs H Q E h=>?_) (fun X cdv A outer s H vs Q E hX hr hx h=>?_)
 . obtain⟨z,rfl,_⟩:=h
   rfl
 subst hX
 obtain⟨z,rfl,hz,h⟩:=h
 refine⟨_,(A2 (B7 (U5 (C8 dA dB hr hx (A0 (pv 0) A1)))) (A2 (B7 (D3 (i:=1) scFigRead.nd rfl (Or.inl rfl) (A1q PySem.F.plainAttrs_str PySem.F.slot_str_lstrip PySem.F.type_str_lstrip C8k (pv 0) (A0 A3 A1)))) (A2 (B7 (D7 (B9 A8c (U2 Z1 (by rfl) O.len_ PySem.boot_len (A0 (pv 1) A1)) A7 (C0 _)) (A5 (B7 (Y7 (by rfl) B.g B.q PySem.F.excBase_ValueError hr.hd hx (A0 A3 A1)))) C6)) (A5 (A8 (Z4 A0p (by rfl) O.int_ boot_int (A0 (D4 V6 A3 (pv 1)) A1))))))),?_⟩
 unfold C2e at h
 by_cases hb:A4a z=true
 . rw[if_pos hb] at h
   refine⟨fun σ' H'=>H'=H/\σ'=[sR z,none],⟨_,rfl,z,rfl,hz,.inl ⟨hb,rfl,rfl⟩⟩,?_⟩
   rintro σ' H1 ⟨rfl,rfl⟩
   refine⟨fun σ' H'=>H'=H1/\σ'=[sR z,sR (Txt.lstripChars z "0")],⟨_,rfl,rfl,z,_,rfl,rfl,B8 hz,rfl,rfl⟩,?_⟩
   rintro σ' H2 ⟨rfl,rfl⟩
   have sl:=C1t z
   by_cases hl:(Txt.lstripChars z "0").length>60
   . rw[if_pos hl] at h
     rcases h with⟨n,e,_⟩|⟨_,k⟩
     . cases e
     . exact⟨fun _ _=>False,⟨_,rfl,_,rfl,B8 (by omega),_,_,rfl,rfl,_,rfl,A0y (show(60:Int)<((Txt.lstripChars z "0").length:Int) by omega) ⟨fun _ _=>False,⟨B8 (by show 1<=1000;decide),k⟩,fun _ _ h=>h.elim⟩⟩,fun _ _ h=>h.elim⟩
   . rw[if_neg hl] at h
     rcases h with⟨n,e,k⟩|⟨e,_⟩
     . obtain rfl:=Option.some.inj e
       have l1:("0":Str).length=1:=by decide+kernel
       refine⟨fun σ' H'=>H'=H2/\σ'=[sR z,sR (Txt.lstripChars z "0")],⟨_,rfl,_,rfl,B8 (by omega),_,_,rfl,rfl,_,rfl,A0s (show¬(60:Int)<((Txt.lstripChars z "0").length:Int) by omega) ⟨rfl,rfl⟩⟩,?_⟩
       rintro σ' H3 ⟨rfl,rfl⟩
       exact⟨_,rfl,_,_,rfl,rfl,B8 (by rw[l1];omega),_,_,rfl,J7f hb (by omega),by rw[strLen_append,l1];omega,k⟩
     . cases e
 rw[if_neg hb] at h
 rcases h with⟨n,e,_⟩|⟨_,k⟩
 . cases e
 exact⟨fun _ _=>False,⟨_,rfl,z,rfl,hz,.inr ⟨by cases q:A4a z with|true=>exact absurd q hb|false=>rfl,k⟩⟩,fun _ _ h=>h.elim⟩
theorem G0t{z:Str}(h:A4a z=true)(hl:z.length<=640):PySem.intText? z=some (B3e z):=by
 unfold B3e
 rw[<-B1v z] at h hl ⊢
 generalize z.cps.toList=l at*
 obtain⟨n,d⟩:=(B6a l).mp h
 rw[U9] at hl
 exact PySem.intText_digits (by rw[A2c];exact d) (by rw[A2c];exact n) (by rw[U9];omega)
noncomputable def B0f (CB:Addr):Sp:=fun vs H Q E=>∃z:Str,vs=[.str z]/\z.length<=1000/\((∃n,shR z=some n/\∀H',B5 H H' ->Q (.int n) H')\/(shR z=none/\∀H',B5 H H' ->E (.ref CB) none H'))
theorem scShiftRead:B0 ["tail","digits"] ["tail"] (A4 A3u):=scK
theorem B7k{f f1 f2 f3 CB:Addr}(D:Def K mg "shift_read" ["tail"] A3u f fd)(dA:Def K mg "need_figures" ["digits"] A4q f1 fd1)(dB:sI P w K mg base 2 f1 fd1 ["digits"] (A9f CB))(dC:Def K mg "without_sign" ["word"] A7j f2 fd2)(dE:sI P w K mg base 1 f2 fd2 ["word"] B2g)(dF:Def K mg "sign_of" ["word"] A7z f3 fd3)(dG:sI P w K mg base 1 f3 fd3 ["word"] B1s)(B:Err K mg "NoText" CB)(O:Own mg):sI P w K mg base 3 f fd ["tail"] (B0f CB):=by
 refine D.F.okE scShiftRead (fun vs H Q E h=>?_) (fun X cdv A outer s H vs Q E hX hr hx h=>?_)
 . obtain⟨z,rfl,_⟩:=h
   rfl
 subst hX
 obtain⟨z,rfl,hz,h⟩:=h
 refine⟨_,(A2 (B7 (D3 (i:=1) scShiftRead.nd rfl (Or.inl rfl) (C8 dC dE hr hx (A0 (pv 0) A1)))) (A2 (B7 (U5 (C8 dA dB hr hx (A0 (pv 1) A1)))) (A2 (B7 (D7 (B9 A8c (U2 Z1 (by rfl) O.len_ PySem.boot_len (A0 (pv 1) A1)) A7 (C0 _)) (A5 (B7 (Y7 (by rfl) B.g B.q PySem.F.excBase_ValueError hr.hd hx (A0 A3 A1)))) C6)) (A5 (A8 (U1 (B9 D9 (C8 dF dG hr hx (A0 (pv 0) A1)) A7 (C0 _)) (A5w A2p (Z4 A0p (by rfl) O.int_ boot_int (A0 (pv 1) A1))) (Z4 A0p (by rfl) O.int_ boot_int (A0 (pv 1) A1)))))))),?_⟩
 have bl:=A8k z
 refine⟨fun σ' H'=>B5 H H'/\σ'=[sR z,sR (bare z)],⟨_,rfl,z,rfl,hz,fun H' s'=>⟨s',rfl⟩⟩,?_⟩
 rintro σ' H1 ⟨s1,rfl⟩
 unfold shR at h
 by_cases hb:A4a (bare z)=true
 . rw[if_pos hb] at h
   refine⟨fun σ' H'=>H'=H1/\σ'=[sR z,sR (bare z)],⟨_,rfl,_,rfl,by omega,.inl ⟨hb,rfl,rfl⟩⟩,?_⟩
   rintro σ' H2 ⟨rfl,rfl⟩
   by_cases hl:(bare z).length>3
   . rw[if_pos hl] at h
     rcases h with⟨n,e,_⟩|⟨_,k⟩
     . cases e
     . exact⟨fun _ _=>False,⟨_,rfl,_,rfl,B8 (by omega),_,_,rfl,rfl,_,rfl,A0y (show(3:Int)<((bare z).length:Int) by omega) ⟨fun _ _=>False,⟨B8 (by show 1<=1000;decide),k _ s1⟩,fun _ _ h=>h.elim⟩⟩,fun _ _ h=>h.elim⟩
   . rw[if_neg hl] at h
     rcases h with⟨n,e,k⟩|⟨e,_⟩
     . obtain rfl:=Option.some.inj e
       refine⟨fun σ' H'=>H'=H2/\σ'=[sR z,sR (bare z)],⟨_,rfl,_,rfl,B8 (by omega),_,_,rfl,rfl,_,rfl,A0s (show¬(3:Int)<((bare z).length:Int) by omega) ⟨rfl,rfl⟩⟩,?_⟩
       rintro σ' H3 ⟨rfl,rfl⟩
       have k:=k _ s1
       refine⟨_,rfl,z,rfl,rfl,_,rfl,?_⟩
       cases hm:A1u z with
       | true=>
         rw[hm,if_pos rfl] at k
         exact A0y rfl ⟨_,rfl,_,_,rfl,G0t hb (by omega),by omega,_,rfl,k⟩
       | false=>
         rw[hm,if_neg Bool.false_ne_true] at k
         exact A0s (by intro q;cases q) ⟨_,rfl,_,_,rfl,G0t hb (by omega),by omega,k⟩
     . cases e
 rw[if_neg hb] at h
 rcases h with⟨n,e,_⟩|⟨_,k⟩
 . cases e
 exact⟨fun _ _=>False,⟨_,rfl,_,rfl,by omega,.inr ⟨by cases q:A4a (bare z) with|true=>exact absurd q hb|false=>rfl,k _ s1⟩⟩,fun _ _ h=>h.elim⟩
noncomputable abbrev A3b:Stmt:=(top 114)
noncomputable abbrev B9t:Stmt:=(top 111)
noncomputable abbrev ptE (z:Str):Str×Str×Str:=Txt.partition z "e"
noncomputable abbrev ptD (z:Str):Str×Str×Str:=Txt.partition z "."
noncomputable def plR (z:Str):Option (Int×Int):=(C2e ((ptD (ptE z).1).1++(ptD (ptE z).1).2.2)).bind fun f=>(if(ptE z).2.1="e" then shR (ptE z).2.2 else some 0).map fun s=>(f,s-((ptD (ptE z).1).2.2.length:Nat))
theorem C5e(z:Str)(i j:Nat):(Builtin.Str.strSub z i j).length<=z.length:=by
 rw[<-B1v z,D0h,U9,U9,List.length_drop]
 have:=List.length_take_le' j z.cps.toList
 omega
theorem B8j(z y:Str):(Txt.partition z y).1.length<=z.length/\(Txt.partition z y).2.2.length<=z.length:=by
 unfold Txt.partition
 split
 . exact⟨C5e _ _ _,C5e _ _ _⟩
 exact⟨Nat.le_refl _,Nat.zero_le _⟩
theorem C6g(z y:Str):(Txt.stripChars z y).length<=z.length:=by
 rw[<-B1v z, <-B1v y,C5h,U9,U9,List.length_reverse]
 have a:=(List.dropWhile_suffix (l:=(z.cps.toList.dropWhile y.cps.toList.contains).reverse) y.cps.toList.contains).length_le
 have b:=(List.dropWhile_suffix (l:=z.cps.toList) y.cps.toList.contains).length_le
 rw[List.length_reverse] at a
 omega
theorem B5c{z:Str}{n:Int}(h:C2e z=some n):0<=n/\n<=10^60-1:=by
 unfold C2e at h
 split at h
 . rename_i hb
   split at h
   . cases h
   . rename_i hl
     obtain rfl:=Option.some.inj h
     unfold B3e
     rw[<-B1v z] at hb hl ⊢
     generalize z.cps.toList=l at*
     rw[A2c,G4t,B2r,U9] at*
     rw[<-B9d l]
     have lt:∀m:List Nat,PySem.NumText.AllDigits m ->PySem.NumText.digitsVal m<10^m.length:=by
       intro m
       induction m with
       |nil=>intro _;decide
       | cons c t ih=>
         intro hd
         have h1:=hd.head
         have h2:=ih hd.tail
         rw[show c::t=[c]++t from rfl,B6s,List.length_append]
         show(0*10+(c-48))*10^t.length+_<10^(1+t.length)
         rw[Nat.pow_add,Nat.zero_mul,Nat.zero_add]
         have:(c-48)*10^t.length<=9*10^t.length:=Nat.mul_le_mul_right _ (by omega)
         omega
     have d:=((B6a l).mp hb).2
     have:=lt (l.dropWhile ([48]:List Nat).contains) fun c hc=>d c ((List.dropWhile_suffix _).mem hc)
     have p:10^(l.dropWhile ([48]:List Nat).contains).length<=10^60:=Nat.pow_le_pow_right (by decide) (by omega)
     have e60:((10^60:Nat):Int)=10^60:=by decide+kernel
     omega
 cases h
noncomputable def plO (z:Str):Option (Int×Int):=(plR z).bind fun q=>if -200<=q.2/\q.2<=200 then some q else none
noncomputable def sgZ (z:Str):Int:=if A1u z=true then 1 else 0
theorem C8r(z:Str):0<=sgZ z/\sgZ z<=1:=by unfold sgZ;split<;>decide
noncomputable abbrev wdZ (z:Str):Str:=Txt.lower (Txt.stripChars z " ")
noncomputable def rdO (z:Str):Option Nm:=if wdZ z="none" then some ⟨.none,0,0,0⟩ else if bare (wdZ z)="end" then some ⟨.end_,sgZ (wdZ z),0,0⟩ else
 (plO (bare (wdZ z))).map fun q=>⟨.plain,sgZ (wdZ z),q.1,q.2⟩
noncomputable def B5r (CN CT:Addr) (H:Hp) (Q:VK) (E:XK):Option Nm ->Prop
 |some x=>∀n H',H n=none ->B5 H H' ->Y0 CN H' n x ->Q (.ref n) H'
 |none=>∀H',B5 H H' ->E (.ref CT) none H'
noncomputable def A9y (CN CT:Addr):Sp:=fun vs H Q E=>∃s:Int,∃z:Str,vs=[.int s,.str z]/\0<=s/\s<=1/\z.length<=400/\(∀q,plR z=some q -> -200<=q.2/\q.2<=200)/\B5r CN CT H Q E ((plO z).map fun q=>⟨.plain,s,q.1,q.2⟩)
theorem scPlainRead:B0 ["sign","body","parts","halves","figures","shift"] Q35 (A4 A3b):=scK
theorem B5u{f f1 f2 f3 CN CT CB:Addr}(D:Def K mg "plain_read" Q35 A3b f fd)(dA:Def K mg "figures_read" ["digits"] A7q f1 fd1)(dB:sI P w K mg base 3 f1 fd1 ["digits"] (B4j CT))(dC:Def K mg "shift_read" ["tail"] A3u f2 fd2)(dE:sI P w K mg base 3 f2 fd2 ["tail"] (B0f CT))
   (dF:Def K mg "plain" Q23 B7a f3 fd3) (dG:sI P w K mg base 3 f3 fd3 Q23 (C3n K CN CB)) (O:Own mg):sI P w K mg base 4 f fd Q35 (A9y CN CT):=by
 refine D.F.okE scPlainRead (fun vs H Q E h=>?_) (fun X cdv A outer s H vs Q E hX hr hx h=>?_)
 . obtain⟨s,z,rfl,_⟩:=h
   rfl
 subst hX
 obtain⟨sg,z,rfl,s0,s1,hz,hin,k⟩:=h
 refine⟨_,(A2 (B7 (D3 (i:=2) scPlainRead.nd rfl (Or.inl rfl) (A1q PySem.F.plainAttrs_str PySem.F.slot_str_partition PySem.F.type_str_partition C4a (pv 1) (A0 A3 A1)))) (A2 (B7 (D3 (i:=3) scPlainRead.nd rfl (Or.inl rfl) (A1q PySem.F.plainAttrs_str PySem.F.slot_str_partition PySem.F.type_str_partition C4a (V3 A0h (pv 2) A7 (fun _ _=>rfl)) (A0 A3 A1)))) (A2 (B7 (D3 (i:=4) scPlainRead.nd rfl (Or.inl rfl) (C8 dA dB hr hx (A0 (D4 V6 (V3 A0h (pv 3) A7 (fun _ _=>rfl)) (V3 A0h (pv 3) A7 (fun _ _=>rfl))) A1)))) (A2 (B7 (D3 (i:=5) scPlainRead.nd rfl (Or.inl rfl) (U1 (B9 D9 (V3 A0h (pv 2) A7 (fun _ _=>rfl)) A3 (C0 _)) (C8 dC dE hr hx (A0 (V3 A0h (pv 2) A7 (fun _ _=>rfl)) A1)) A7))) (A5 (B7 (G2t (fun pins Ew EHb hc=>(A5 (A8 (C8 dF dG hr hc (A0 (pv 0) (A0 (pv 4) (A0 (D4 A0k (pv 5) (U2 Z1 (by rfl) O.len_ PySem.boot_len (A0 (V3 (B7h (K:=K) rfl) (pv 3) A7 (fun _ _=>rfl)) A1))) A1)))))))))))))),?_⟩
 have l1:(ptE z).1.length<=z.length/\(ptE z).2.2.length<=z.length:=B8j z "e"
 have l2:(ptD (ptE z).1).1.length<=(ptE z).1.length/\(ptD (ptE z).1).2.2.length<=(ptE z).1.length:=B8j (ptE z).1 "."
 have y1:(("e":Str).length==0)=false:=by decide+kernel
 have y2:((".":Str).length==0)=false:=by decide+kernel
 unfold plO plR at k
 unfold plR at hin
 refine⟨fun σ' H'=>∃q,B5 H H'/\H' q=some (.tup [.str (ptE z).1,.str (ptE z).2.1,.str (ptE z).2.2])/\σ'=[si sg,sR z,sr q,none,none,none],⟨_,rfl,rfl,z,_,rfl,rfl,y1,B8 (by omega),fun q nq=>⟨q,B5.upd nq,A6,rfl⟩⟩,?_⟩
 rintro σ' H1 ⟨q,s1',e1,rfl⟩
 refine⟨fun σ' H'=>∃r,B5 H1 H'/\H' r=some (.tup [.str (ptD (ptE z).1).1,.str (ptD (ptE z).1).2.1,.str (ptD (ptE z).1).2.2])/\σ'=[si sg,sR z,sr q,sr r,none,none],⟨_,rfl,q,_,_,_,rfl,rfl,SqT.of e1,G5 (j:=0) rfl,rfl,_,_,rfl,rfl,y2,B8 (by omega),fun r nr=>⟨r,B5.upd nr,A6,rfl⟩⟩,?_⟩
 rintro σ' H2 ⟨r,s2,e2,rfl⟩
 have e1:=s2 _ _ e1
 have sH2:=s1'.trans s2
 cases hF:C2e ((ptD (ptE z).1).1++(ptD (ptE z).1).2.2) with
 | none=>
   rw[hF] at k
   have k:∀H',B5 H H' ->E (.ref CT) none H':=k
   exact⟨fun _ _=>False,⟨_,rfl,r,_,_,_,rfl,rfl,SqT.of e2,G5 (j:=0) rfl,_,rfl,r,_,_,_,rfl,rfl,SqT.of e2,G5 (j:=2) rfl,_,_,rfl,rfl,B8 (by omega),_,rfl,by rw[strLen_append];omega,.inr ⟨hF,k _ sH2⟩⟩,fun _ _ h=>h.elim⟩
 |some fg=>
 rw[hF] at k hin
 have fr:=B5c hF
 refine⟨fun σ' H'=>H'=H2/\σ'=[si sg,sR z,sr q,sr r,si fg,none],⟨_,rfl,r,_,_,_,rfl,rfl,SqT.of e2,G5 (j:=0) rfl,_,rfl,r,_,_,_,rfl,rfl,SqT.of e2,G5 (j:=2) rfl,_,_,rfl,rfl,B8 (by omega),_,rfl,by rw[strLen_append];omega,.inl ⟨fg,hF,rfl,rfl⟩⟩,?_⟩
 rintro σ' H3 ⟨rfl,rfl⟩
 cases hS:(if(ptE z).2.1="e" then shR (ptE z).2.2 else some 0) with
 | none=>
   rw[hS] at k
   have k:∀H',B5 H H' ->E (.ref CT) none H':=k
   refine⟨fun _ _=>False,?_,fun _ _ h=>h.elim⟩
   refine⟨_,rfl,q,_,_,_,rfl,rfl,SqT.of e1,G5 (j:=1) rfl,rfl,_,rfl,U6 (fun h=>?_) (fun h=>?_)⟩
   . have h:(ptE z).2.1="e":=by injection h
     rw[if_pos h] at hS
     exact⟨_,rfl,q,_,_,_,rfl,rfl,SqT.of e1,G5 (j:=2) rfl,_,rfl,by omega,.inr ⟨hS,fun H' s'=>k _ (sH2.trans s')⟩⟩
   . have h:¬(ptE z).2.1="e":=fun q=>h (congrArg V.str q)
     rw[if_neg h] at hS
     cases hS
 |some sh=>
 rw[hS] at k hin
 refine⟨fun σ' H'=>B5 H3 H'/\σ'=[si sg,sR z,sr q,sr r,si fg,si sh],?_,?_⟩
 . refine⟨_,rfl,q,_,_,_,rfl,rfl,SqT.of e1,G5 (j:=1) rfl,rfl,_,rfl,U6 (fun h=>?_) (fun h=>?_)⟩
   . have h:(ptE z).2.1="e":=by injection h
     rw[if_pos h] at hS
     exact⟨_,rfl,q,_,_,_,rfl,rfl,SqT.of e1,G5 (j:=2) rfl,_,rfl,by omega,.inl ⟨sh,hS,fun H' s'=>⟨s',rfl⟩⟩⟩
   . have h:¬(ptE z).2.1="e":=fun q=>h (congrArg V.str q)
     rw[if_neg h] at hS
     obtain rfl:=Option.some.inj hS
     exact⟨B5.refl _,rfl⟩
 rintro σ' H4 ⟨s4,rfl⟩
 have e2:=s4 _ _ e2
 have sH4:=sH2.trans s4
 have k:B5r CN CT H Q E ((if -200<=sh-((ptD (ptE z).1).2.2.length:Nat)/\sh-((ptD (ptE z).1).2.2.length:Nat)<=200 then some (fg,sh-((ptD (ptE z).1).2.2.length:Nat)) else none).map fun q=>⟨.plain,sg,q.1,q.2⟩):=k
 refine⟨_,?_,fun _ _ h=>h⟩
 refine⟨_,rfl,_,rfl,_,rfl,_,rfl,r,_,_,_,rfl,rfl,SqT.of e2,G5 (j:=2) rfl,_,rfl,B8 (by omega),_,_,rfl,rfl,_,_,_,rfl,?_⟩
 by_cases hp: -200<=sh-((ptD (ptE z).1).2.2.length:Nat)/\sh-((ptD (ptE z).1).2.2.length:Nat)<=200
 . rw[if_pos hp] at k
   exact .inl ⟨⟨sg,rfl,s0,s1⟩,⟨fg,rfl,fr.1,fr.2⟩,⟨_,rfl,hp.1,hp.2⟩,fun n H' nn s' num=>k n H' (sH4.free nn) (sH4.trans s') num⟩
 exact absurd (hin _ rfl) hp
noncomputable def J1u (K:Frag) (H:Hp) (v:V):Prop:=∃t,TyE K H v t/\kitOne K t (.type "str")=some false
noncomputable def C2j (K:Frag) (CN CT:Addr):Sp:=fun vs H Q E=>∃v,vs=[v]/\((∃z,v= .str z/\z.length<=400/\(wdZ z).length<=400/\(∀q,plR (bare (wdZ z))=some q -> -200<=q.2/\q.2<=200)/\B5r CN CT H Q E (rdO z))\/(J1u K H v/\B5r CN CT H Q E none))
theorem scRead:B0 ["text","word","body"] ["text"] (A4 B9t):=scK
theorem G2j{f f1 f2 f3 f4 f5 CN CT CB':Addr}(D:Def K mg "read" ["text"] B9t f fd)(dC:Def K mg "nothing" [] A1z f1 fd1)(dE:sI P w K mg base 3 f1 fd1 [] (A2u CN))(dF:Def K mg "without_sign" ["word"] A7j f2 fd2)(dG:sI P w K mg base 1 f2 fd2 ["word"] B2g)(dA:Def K mg "sign_of" ["word"] A7z f3 fd3)(dB:sI P w K mg base 1 f3 fd3 ["word"] B1s)
   (dH:Def K mg "end" ["sign"] C2z f4 fd4) (dJ:sI P w K mg base 3 f4 fd4 ["sign"] (B9s K CN CB')) (dL:Def K mg "plain_read" Q35 A3b f5 fd5) (dM:sI P w K mg base 4 f5 fd5 Q35 (A9y CN CT)) (B:Err K mg "NoText" CT) (O:Own mg) (T:Kit K):sI P w K mg base 5 f fd ["text"] (C2j K CN CT):=by
 refine D.F.okE scRead (fun vs H Q E h=>?_) (fun X cdv A outer s H vs Q E hX hr hx h=>?_)
 . obtain⟨v,rfl,_⟩:=h
   rfl
 subst hX
 obtain⟨v,rfl,h⟩:=h
 refine⟨_,(A2 (B7 (D7 (A1k (V8 (B9g O.isi (pv 0) (pty O.str_ boot_str)))) (A5 (B7 (Y7 (by rfl) B.g B.q PySem.F.excBase_ValueError hr.hd hx (A0 A3 A1)))) C6)) (A2 (B7 (D3 (i:=1) scRead.nd rfl (Or.inl rfl) (D3z PySem.F.plainAttrs_str PySem.F.slot_str_lower PySem.F.type_str_lower D3j (A1q PySem.F.plainAttrs_str PySem.F.slot_str_strip PySem.F.type_str_strip B8b (pv 0) (A0 A3 A1))))) (A2 (B7 (D7 (B9 D9 (pv 1) A3 (C0 _)) (A5 (A8 (B5k dC dE hr hx))) C6)) (A2 (B7 (D3 (i:=2) scRead.nd rfl (Or.inl rfl) (C8 dF dG hr hx (A0 (pv 1) A1)))) (A2 (B7 (D7 (B9 D9 (pv 2) A3 (C0 _)) (A5 (A8 (C8 dH dJ hr hx (A0 (C8 dA dB hr hx (A0 (pv 1) A1)) A1)))) C6)) (A5 (A8 (C8 dL dM hr hx (A0 (C8 dA dB hr hx (A0 (pv 1) A1)) (A0 (pv 2) A1)))))))))),?_⟩
 rcases h with⟨z,rfl,hz,hw,hin,k⟩|⟨⟨t,ty,no⟩,k⟩
 . have so:=C8r (wdZ z)
   have bl:=A8k (wdZ z)
   have sl:=C6g z " "
   unfold rdO at k
   refine⟨fun σ' H'=>H'=H/\σ'=[sR z,none,none],⟨_,rfl,_,_,_,_,true,rfl,rfl,B4r _,T.str_str,_,rfl,V1 ⟨rfl,rfl⟩⟩,?_⟩
   rintro σ' H1 ⟨rfl,rfl⟩
   refine⟨fun σ' H'=>H'=H1/\σ'=[sR z,sR (wdZ z),none],⟨_,rfl,rfl,z,_,rfl,rfl,B8 (by omega),rfl,_,rfl,rfl,B8 (show(wdZ z).length<=1000 by omega),rfl,rfl⟩,?_⟩
   rintro σ' H2 ⟨rfl,rfl⟩
   refine⟨fun σ' H'=>H'=H2/\¬wdZ z="none"/\σ'=[sR z,sR (wdZ z),none],?_,?_⟩
   . refine⟨_,rfl,rfl,_,rfl,U6 (fun h=>?_) (fun h=>⟨rfl,fun q=>h (congrArg V.str q),rfl⟩)⟩
     have h:wdZ z="none":=by injection h
     rw[if_pos h] at k
     exact⟨rfl,fun n H' nn s' num=>k n H' nn s' num⟩
   rintro σ' H3 ⟨rfl,hn,rfl⟩
   rw[if_neg hn] at k
   refine⟨fun σ' H'=>B5 H3 H'/\σ'=[sR z,sR (wdZ z),sR (bare (wdZ z))],⟨_,rfl,_,rfl,by omega,fun H' s'=>⟨s',rfl⟩⟩,?_⟩
   rintro σ' H4 ⟨s4,rfl⟩
   refine⟨fun σ' H'=>H'=H4/\¬bare (wdZ z)="end"/\σ'=[sR z,sR (wdZ z),sR (bare (wdZ z))],?_,?_⟩
   . refine⟨_,rfl,rfl,_,rfl,U6 (fun h=>?_) (fun h=>⟨rfl,fun q=>h (congrArg V.str q),rfl⟩)⟩
     have h:bare (wdZ z)="end":=by injection h
     rw[if_pos h] at k
     exact⟨_,rfl,_,rfl,_,rfl,.inl ⟨⟨sgZ (wdZ z),rfl,so.1,so.2⟩,fun n H' nn s' num=>k n H' (s4.free nn) (s4.trans s') num⟩⟩
   rintro σ' H5 ⟨rfl,he,rfl⟩
   rw[if_neg he] at k
   refine⟨_,rfl,_,rfl,_,rfl,sgZ (wdZ z),bare (wdZ z),rfl,so.1,so.2,by omega,hin,?_⟩
   revert k
   cases(plO (bare (wdZ z))).map fun q=>(⟨.plain,sgZ (wdZ z),q.1,q.2⟩:Nm) with
   |none=>exact fun k H' s'=>k H' (s4.trans s')
   |some x=>exact fun k n H' nn s' num=>k n H' (s4.free nn) (s4.trans s') num
 exact⟨fun _ _=>False,⟨_,rfl,_,_,_,t,false,rfl,rfl,ty,no,_,rfl,Y1 ⟨fun _ _=>False,⟨B8 (by show 1<=1000;decide),k _ (B5.refl _)⟩,fun _ _ h=>h.elim⟩⟩,fun _ _ h=>h.elim⟩
noncomputable abbrev A3s:Stmt:=(top 109)
noncomputable abbrev A5h:Stmt:=(top 110)
noncomputable abbrev B0x:Stmt:=(top 108)
noncomputable abbrev A4u:Stmt:=(top 107)
noncomputable def A2w (l:List Nat) (b:Nat):List Nat:=List.replicate (b+1-l.length) 48++l
noncomputable def wpL (l:List Nat) (b:Nat):List Nat:=if b=0 then l else(A2w l b).take ((A2w l b).length-b)++46::(A2w l b).drop ((A2w l b).length-b)
noncomputable def wlL (l:List Nat) (e:Int):List Nat:=l.take 1++(if l.length>1 then 46::l.drop 1 else [])++ [101]++(if e<0 then [45] else [43])++dig e.natAbs
noncomputable def B0d:Sp:=fun vs H Q _=>∃(l:List Nat) (b:Nat),vs=[.str (S l),.int (b:Int)]/\PySem.NumText.AllDigits l/\l≠ []/\l.length<=60/\b<=300/\Q (.str (S (wpL l b))) H
theorem scWithPoint:B0 ["digits","behind","filled","ahead"] Q36 (A4 A3s):=scK
theorem B7n(D:Def K mg "with_point" Q36 A3s f fd)(O:Own mg):sI P w K mg base 1 f fd Q36 B0d:=by
 refine D.F.okE scWithPoint (fun vs H Q E h=>?_) (fun X cdv A outer s H vs Q E hX hr hx h=>?_)
 . obtain⟨l,b,rfl,_⟩:=h
   rfl
 subst hX
 obtain⟨l,b,rfl,hd,hn,hl,hb,k⟩:=h
 refine⟨_,(A2 (B7 (D7 (B9 D9 (pv 1) A7 (C0 _)) (A5 (A8 (pv 0))) C6)) (A2 (B7 (D3 (i:=2) scWithPoint.nd rfl (Or.inl rfl) (A1q PySem.F.plainAttrs_str PySem.F.slot_str_zfill PySem.F.type_str_zfill D0p (pv 0) (A0 (D4 A0w (pv 1) A7) A1)))) (A2 (B7 (D3 (i:=3) scWithPoint.nd rfl (Or.inl rfl) (D4 A0k (U2 Z1 (by rfl) O.len_ PySem.boot_len (A0 (pv 2) A1)) (pv 1)))) (A5 (A8 (D4 V6 (D4 V6 (A0m B2x (pv 2) A1g (A1e (pv 3))) A3) (A0m B2x (pv 2) (A1e (pv 3)) A1g))))))),?_⟩
 refine⟨fun σ' H'=>H'=H/\¬b=0/\σ'=[sR (S l),si (b:Int),none,none],?_,?_⟩
 . refine⟨_,rfl,rfl,_,rfl,U6 (fun h=>?_) (fun h=>⟨rfl,fun q=>h (by rw[q];rfl),rfl⟩)⟩
   have h:b=0:=Int.ofNat.inj (V.int.inj h)
   unfold wpL at k
   rw[if_pos h] at k
   exact⟨_,rfl,k⟩
 rintro σ' H1 ⟨rfl,h,rfl⟩
 have fl:(A2w l b).length=if b+1<=l.length then l.length else b+1:=by
   unfold A2w
   rw[List.length_append,List.length_replicate]
   split<;>omega
 have fb:b<=(A2w l b).length/\(A2w l b).length<=400:=by
   rw[fl]
   split<;>omega
 have hh:∀c,l.head?=some c ->48<=c:=fun c hc=>(hd c (List.mem_of_mem_head? hc)).1
 have zf:Txt.zfill (S l) ((b:Int)+1)=S (A2w l b):=by
   rw[show(b:Int)+1=((b+1:Nat):Int) from rfl]
   exact D9h l (b+1) (fun q=>by have:=hh _ q;omega) (fun q=>by have:=hh _ q;omega)
 have pd:PadOk ((b:Int)+1)=true:=by
   unfold PadOk fitsSsize
   rw[Bool.and_eq_true,Bool.not_eq_true',Bool.not_eq_true']
   refine⟨?_,B1a (B8 (by omega))⟩
   rw[Bool.or_eq_false_iff]
   exact⟨decide_eq_false (by omega),decide_eq_false (by omega)⟩
 unfold wpL at k
 rw[if_neg h] at k
 refine⟨fun σ' H'=>H'=H1/\σ'=[sR (S l),si (b:Int),sR (S (A2w l b)),none],?_,?_⟩
 . refine⟨_,rfl,rfl,_,rfl,_,_,rfl,rfl,S l,_,rfl,rfl,pd,rfl,?_⟩
   rw[<-zf]
   rfl
 rintro σ' H2 ⟨rfl,rfl⟩
 generalize A2w l b=m at fb k
 have ea:((S m).length:Int)- (b:Int)=((m.length-b:Nat):Int):=by
   rw[U9]
   omega
 have t1:=G7e m (m.length-b) (by omega)
 have t2:=B1j m (m.length-b) (by omega)
 have n1:(".":Str).length=1:=by decide+kernel
 refine⟨fun σ' H'=>H'=H2/\σ'=[sR (S l),si (b:Int),sR (S m),si ((m.length-b:Nat):Int)],?_,?_⟩
 . refine⟨_,rfl,_,rfl,B8 (by rw[U9];omega),_,rfl,_,_,rfl,rfl,rfl,?_⟩
   rw[<-ea]
   rfl
 rintro σ' H3 ⟨rfl,rfl⟩
 generalize m.length-b=a at t1 t2 k
 have k1:(m.take a).length<=400:=Nat.le_trans (List.length_take_le' a m) fb.2
 have k2:(m.drop a).length<=400:=by rw[List.length_drop];omega
 refine⟨_,rfl,_,rfl,_,rfl,S m,rfl,by rw[t1,U9];exact B8 (by omega),_,_,rfl,rfl,by rw[t1,U9,n1];exact B8 (by omega),_,rfl,_,rfl,_,rfl,S m,rfl,by rw[t2,U9];exact B8 (by omega),_,_,rfl,rfl,by rw[strLen_append,t1,t2,U9,U9,n1];exact B8 (by omega),?_⟩
 rw[t1,t2,D1z,A5x,A5x,List.append_assoc]
 exact k
noncomputable def B2n:Sp:=fun vs H Q _=>∃(l:List Nat) (e:Int),vs=[.str (S l),.int e]/\l≠ []/\l.length<=60/\ -400<=e/\e<=400/\Q (.str (S (wlL l e))) H
theorem scWithLead:B0 ["digits","lead","others","mark"] Q37 (A4 A5h):=scK
theorem B8t(D:Def K mg "with_lead" Q37 A5h f fd)(O:Own mg):sI P w K mg base 1 f fd Q37 B2n:=by
 refine D.F.okE scWithLead (fun vs H Q E h=>?_) (fun X cdv A outer s H vs Q E hX hr hx h=>?_)
 . obtain⟨l,e,rfl,_⟩:=h
   rfl
 subst hX
 obtain⟨l,e,rfl,hn,hl,e0,e1,k⟩:=h
 refine⟨_,(A2 (B7 (D3 (i:=2) scWithLead.nd rfl (Or.inl rfl) (U1 (B9 A8c (U2 Z1 (by rfl) O.len_ PySem.boot_len (A0 (pv 0) A1)) A7 (C0 _)) (D4 V6 A3 (A0m B2x (pv 0) (A1e A7) A1g)) A3))) (A2 (B7 (D3 (i:=3) scWithLead.nd rfl (Or.inl rfl) (U1 (B9 B8x (pv 1) A7 (C0 _)) A3 A3))) (A5 (A8 (D4 V6 (D4 V6 (D4 V6 (D4 V6 (V3 G6z (pv 0) A7 (fun _ _=>rfl)) (pv 2)) A3) (pv 3)) (Z4 A3v (by rfl) O.str_ boot_str (A0 (U2 B8m (by rfl) O.abs_ boot_abs (A0 (pv 1) A1)) A1))))))),?_⟩
 have ll:1<=l.length:=by
   cases l with
   |nil=>exact absurd rfl hn
   |cons a t=>exact Nat.succ_le_succ (Nat.zero_le _)
 have c1:B1p (S l) (some 1) none=S (l.drop 1):=B1j l 1 ll
 have n1:(".":Str).length=1:=by decide+kernel
 have n2:("e":Str).length=1:=by decide+kernel
 refine⟨fun σ' H'=>H'=H/\σ'=[sR (S l),si e,sR (S (if l.length>1 then 46::l.drop 1 else [])),none],?_,?_⟩
 . refine⟨_,rfl,_,rfl,B8 (by rw[U9];omega),_,_,rfl,rfl,_,rfl,U6 (fun h=>?_) (fun h=>?_)⟩
   . have h:(1:Int)<((S l).length:Int):=h
     rw[U9] at h
     rw[if_pos (show l.length>1 by omega)]
     have k2:(l.drop 1).length<=60:=by rw[List.length_drop];omega
     refine⟨_,rfl,_,rfl,S l,rfl,by rw[c1,U9];exact B8 (by omega),_,_,rfl,rfl,by rw[c1,U9,n1];exact B8 (by omega),rfl,?_⟩
     show [sR (S l),si e,sR ((".":Str)++B1p (S l) (some 1) none),none]=_
     rw[c1,D1z,A5x]
     rfl
   . have h:¬(1:Int)<((S l).length:Int):=h
     rw[U9] at h
     rw[if_neg (show¬l.length>1 by omega)]
     exact⟨rfl,by rw[<-G6p];rfl⟩
 rintro σ' H1 ⟨rfl,rfl⟩
 refine⟨fun σ' H'=>H'=H1/\σ'=[sR (S l),si e,sR (S (if l.length>1 then 46::l.drop 1 else [])),sR (S (if e<0 then [45] else [43]))],?_,?_⟩
 . refine⟨_,rfl,_,_,rfl,rfl,_,rfl,U6 (fun h=>?_) (fun h=>?_)⟩
   . rw[if_pos (show e<0 from h)]
     exact⟨rfl,by rw[<-G8a];rfl⟩
   . rw[if_neg (show¬e<0 from h)]
     exact⟨rfl,by rw[<-J2q];rfl⟩
 rintro σ' H2 ⟨rfl,rfl⟩
 unfold wlL at k
 have o1:(if l.length>1 then 46::l.drop 1 else []).length<=61:=by
   split
   . rw[List.length_cons,List.length_drop]
     omega
   . exact Nat.zero_le _
 have o2:(if e<0 then [45] else [43]).length=1:=by split<;>rfl
 generalize (if l.length>1 then 46::l.drop 1 else [])=ot at o1 k
 generalize (if e<0 then [45] else [43])=mk at o2 k
 obtain⟨c,t,rfl⟩:∃c t,l=c::t:=by
   cases l with
   |nil=>exact absurd rfl hn
   |cons c t=>exact⟨c,t,rfl⟩
 have ea:(if e<0 then -e else e)=(e.natAbs:Int):=by split<;>omega
 have dl:(dig e.natAbs).length<=4:=B5s (by omega) (by decide)
 have tx:Str.ofString (toString (if e<0 then -e else e))=S (dig e.natAbs):=by rw[ea,D3w]
 have lg:(if e<0 then -e else e).natAbs.log2<1920:=by
   rw[ea,Int.natAbs_natCast]
   by_cases z:e.natAbs=0
   . rw[z];decide
   . exact(Nat.log2_lt z).mpr (Nat.lt_of_lt_of_le (show e.natAbs<2^9 by omega) (Nat.pow_le_pow_right (by decide) (by decide)))
 have sc:(⟨#[c]⟩:Str)=S [c]:=rfl
 have q1:(S [c]).length=1:=U9 [c]
 have q2:=U9 ot
 have q3:=U9 mk
 have q4:=U9 (dig e.natAbs)
 refine⟨_,rfl,S (c::t),0,c,rfl,rfl,B8 (by rw[U9];omega),G5 (j:=0) rfl,_,rfl,_,_,rfl,rfl,?_,_,_,rfl,rfl,?_,_,rfl,_,_,rfl,rfl,?_,_,rfl,e,rfl,_,rfl,lg,_,_,rfl,rfl,?_,?_⟩
 . rw[sc];exact B8 (by omega)
 . rw[sc,strLen_append];exact B8 (by omega)
 . rw[sc,strLen_append,strLen_append];exact B8 (by omega)
 . rw[sc,strLen_append,strLen_append,strLen_append,tx];exact B8 (by omega)
 rw[sc,tx,J8f,A5x,A5x,A5x,A5x]
 exact k
noncomputable def fgL (x:Nm):List Nat:=dig x.f.toNat
noncomputable def ldW (x:Nm):Int:=if x.f=0 then x.p else x.p+((fgL x).length:Nat)-1
noncomputable def wwL (x:Nm):List Nat:=if x.p<=0/\ldW x>= -6 then wpL (fgL x) (-x.p).toNat else wlL (fgL x) (ldW x)
noncomputable def mkL (x:Nm):List Nat:=if x.s=1 then [45] else []
noncomputable def G3k:List Nat:=[110,111,110,101]
noncomputable def J2z:List Nat:=[101,110,100]
noncomputable def wrL (x:Nm):List Nat:=if x.k= .none then G3k else mkL x++(if x.k= .end_ then J2z else wwL x)
theorem G0h:("none":Str)=S G3k:=by decide+kernel
theorem G6b:("end":Str)=S J2z:=by decide+kernel
theorem C4b{x:Nm}(h:0<=x.f):Str.ofString (toString x.f)=S (fgL x):=by
 unfold fgL
 obtain⟨n,hn⟩:=Int.eq_ofNat_of_zero_le h
 rw[hn,D3w,Int.toNat_natCast]
theorem C0x{x:Nm}(h:x.Ok):1<=(fgL x).length/\(fgL x).length<=60:=by
 have f1:=h.f1
 have f0:=h.f0
 have e60:((10^60:Nat):Int)=10^60:=by decide+kernel
 refine⟨?_,B5s (by omega) (by decide)⟩
 have:=D2u x.f.toNat
 unfold fgL
 cases e:dig x.f.toNat with
 |nil=>exact absurd e this
 |cons a t=>exact Nat.succ_le_succ (Nat.zero_le _)
theorem G8e{l:List Nat}{b:Nat}(hl:l.length<=60)(hb:b<=300):(wpL l b).length<=362:=by
 unfold wpL
 split
 . omega
 have fl:(A2w l b).length<=361:=by
   unfold A2w
   rw[List.length_append,List.length_replicate]
   omega
 rw[List.length_append,List.length_cons,List.length_take,List.length_drop]
 omega
theorem G4y{l:List Nat}{e:Int}(hl:l.length<=60)(e0: -400<=e)(e1:e<=400):(wlL l e).length<=150:=by
 unfold wlL
 have dl:(dig e.natAbs).length<=4:=B5s (by omega) (by decide)
 have o1:(if l.length>1 then 46::l.drop 1 else []).length<=61:=by
   split
   . rw[List.length_cons,List.length_drop]
     omega
   . exact Nat.zero_le _
 have o2:(if e<0 then [45] else [43]).length=1:=by split<;>rfl
 have o3:(l.take 1).length<=1:=List.length_take_le 1 l
 simp only[List.length_append,o2]
 show _+_+1+1+_<=150
 omega
theorem J2n{x:Nm}(h:x.Ok): -400<=ldW x/\ldW x<=400:=by
 have:=C0x h
 have p0:=h.p0;have p1:=h.p1
 unfold ldW
 split<;>omega
theorem G8p{x:Nm}(h:x.Ok):(wwL x).length<=362:=by
 have:=C0x h
 have p0:=h.p0;have p1:=h.p1
 have lb:=J2n h
 unfold wwL
 split
 . exact G8e this.2 (by omega)
 exact Nat.le_trans (G4y this.2 lb.1 lb.2) (by decide)
noncomputable def B8k (CN:Addr):Sp:=fun vs H Q _=>∃n x,vs=[.ref n]/\Y0 CN H n x/\x.Ok/\Q (.str (S (wwL x))) H
theorem scWorthW:B0 ["number","lead","digits"] ["number"] (A4 B0x):=scK
theorem C7s{f f1 f2 f3 CN:Addr}(D:Def K mg "worth_written" ["number"] B0x f fd)(dA:Def K mg "lead_of" ["number"] B8w f1 fd1)(dB:sI P w K mg base 1 f1 fd1 ["number"] (C1f CN))(dC:Def K mg "with_point" Q36 A3s f2 fd2)(dE:sI P w K mg base 1 f2 fd2 Q36 B0d)(dF:Def K mg "with_lead" Q37 A5h f3 fd3)(dG:sI P w K mg base 1 f3 fd3 Q37 B2n)(N:Num K mg CN)(O:Own mg):sI P w K mg base 2 f fd ["number"] (B8k CN):=by
 refine D.F.okE scWorthW (fun vs H Q E h=>?_) (fun X cdv A outer s H vs Q E hX hr hx h=>?_)
 . obtain⟨n,x,rfl,_⟩:=h
   rfl
 subst hX
 obtain⟨n,x,rfl,hn,ok,k⟩:=h
 have f0:=ok.f0;have f1:=ok.f1;have p0:=ok.p0;have p1:=ok.p1
 have fl:=C0x ok
 have lb:=J2n ok
 obtain⟨dn,en⟩:=id hn
 have hf:x.f.natAbs<2^300:=by
   have:(10:Int)^60<=2^300:=by decide+kernel
   omega
 have lg:x.f.natAbs.log2<1920:=Nat.lt_trans (A3p hf (by decide)) (by decide)
 refine⟨_,(A2 (B7 (D3 (i:=1) scWorthW.nd rfl (Or.inl rfl) (U1 (B9 D9 (D6 (pv 0) rfl) A7 (C0 _)) (D6 (pv 0) rfl) (C8 dA dB hr hx (A0 (pv 0) A1))))) (A2 (B7 (D3 (i:=2) scWorthW.nd rfl (Or.inl rfl) (Z4 A3v (by rfl) O.str_ boot_str (A0 (D6 (pv 0) rfl) A1)))) (A2 (B7 (D7 (PW.pt (A9b (B9 D1c (D6 (pv 0) rfl) A7 (C0 _)) (A5j (B9 C4c (pv 1) (A5w A2p A7) (C0 _))))) (A5 (A8 (C8 dC dE hr hx (A0 (pv 2) (A0 (A5w A2p (D6 (pv 0) rfl)) A1))))) C6)) (A5 (A8 (C8 dF dG hr hx (A0 (pv 2) (A0 (pv 1) A1)))))))),?_⟩
 refine⟨fun σ' H'=>H'=H/\σ'=[sr n,si (ldW x),none],?_,?_⟩
 . refine⟨_,rfl,n,CN,dn,_,_,rfl,en,N.cl,N.n3,B3f _ _ _ _,rfl,_,rfl,U6 (fun h=>?_) (fun h=>?_)⟩
   . have h:x.f=0:=V.int.inj h
     refine⟨_,rfl,n,CN,dn,_,_,rfl,en,N.cl,N.n4,B3j _ _ _ _,rfl,?_⟩
     unfold ldW
     rw[if_pos h]
     rfl
   . have h:¬x.f=0:=fun q=>h (congrArg V.int q)
     refine⟨_,rfl,n,_,_,x.f,x.p,rfl,hn,hf,rfl,?_⟩
     unfold ldW
     rw[if_neg h, <-U9 (fgL x), <-C4b f0]
     rfl
 rintro σ' H1 ⟨rfl,rfl⟩
 refine⟨fun σ' H'=>H'=H1/\σ'=[sr n,si (ldW x),sR (S (fgL x))],?_,?_⟩
 . refine⟨_,rfl,n,CN,dn,_,_,rfl,en,N.cl,N.n3,B3f _ _ _ _,_,rfl,lg,rfl,?_⟩
   rw[<-C4b f0]
   rfl
 rintro σ' H2 ⟨rfl,rfl⟩
 unfold wwL at k
 have ne:fgL x≠ []:=D2u _
 refine⟨fun σ' H'=>H'=H2/\¬(x.p<=0/\ldW x>= -6)/\σ'=[sr n,si (ldW x),sR (S (fgL x))],?_,?_⟩
 . refine⟨_,rfl,n,CN,dn,_,_,rfl,en,N.cl,N.n4,B3j _ _ _ _,_,_,rfl,rfl,_,rfl,U6 (fun h=>?_) (fun h=>⟨rfl,fun q=>h q.1,rfl⟩)⟩
   have h:x.p<=0:=h
   refine⟨_,rfl,_,rfl,_,_,rfl,rfl,_,rfl,U6 (fun h2=>?_) (fun h2=>⟨rfl,fun q=>h2 q.2,rfl⟩)⟩
   have h2:ldW x>= -6:=h2
   rw[if_pos ⟨h,h2⟩] at k
   refine⟨_,rfl,_,rfl,n,CN,dn,_,_,rfl,en,N.cl,N.n4,B3j _ _ _ _,_,rfl,fgL x,(-x.p).toNat,?_,G0d _,ne,fl.2,by omega,k⟩
   show [V.str (S (fgL x)),V.int (-x.p)]=_
   rw[Int.toNat_of_nonneg (by omega)]
 rintro σ' H3 ⟨rfl,hh,rfl⟩
 rw[if_neg hh] at k
 exact⟨_,rfl,_,rfl,fgL x,ldW x,rfl,ne,fl.2,lb.1,lb.2,k⟩
noncomputable def A8p (K:Frag) (CN CB:Addr):Sp:=fun vs H Q E=>∃u,vs=[u]/\((∃n x,u= .ref n/\Y0 CN H n x/\x.Ok/\Q (.str (S (wrL x))) H)\/(C2u K CN H u/\E (.ref CB) none H))
theorem scWritten:B0 ["number","mark"] ["number"] (A4 A4u):=scK
theorem C1j{f f1 f2 CN CB:Addr}(D:Def K mg "written" ["number"] A4u f fd)(dA:Def K mg "need_number" ["thing"] A6h f1 fd1)(dB:sI P w K mg base 1 f1 fd1 ["thing"] (A8f K CN CB))(dC:Def K mg "worth_written" ["number"] B0x f2 fd2)(dE:sI P w K mg base 2 f2 fd2 ["number"] (B8k CN))(N:Num K mg CN):sI P w K mg base 3 f fd ["number"] (A8p K CN CB):=by
 refine D.F.okE scWritten (fun vs H Q E h=>?_) (fun X cdv A outer s H vs Q E hX hr hx h=>?_)
 . obtain⟨u,rfl,_⟩:=h
   rfl
 subst hX
 obtain⟨u,rfl,h⟩:=h
 refine⟨_,(A2 (B7 (U5 (C8 dA dB hr hx (A0 (pv 0) A1)))) (A2 (B7 (D7 (B9 D9 (D6 (pv 0) rfl) A3 (C0 _)) (A5 (A8 A3)) C6)) (A2 (B7 (D3 (i:=1) scWritten.nd rfl (Or.inl rfl) (U1 (B9 D9 (D6 (pv 0) rfl) A7 (C0 _)) A3 A3))) (A2 (B7 (D7 (B9 D9 (D6 (pv 0) rfl) A3 (C0 _)) (A5 (A8 (D4 V6 (pv 1) A3))) C6)) (A5 (A8 (D4 V6 (pv 1) (C8 dC dE hr hx (A0 (pv 0) A1))))))))),?_⟩
 rcases h with⟨n,x,rfl,hn,ok,k⟩|⟨bad,k⟩
 rotate_left
 . exact⟨fun _ _=>False,⟨_,rfl,_,rfl,.inr ⟨bad,k⟩⟩,fun _ _ h=>h.elim⟩
 obtain⟨dn,en⟩:=id hn
 unfold wrL at k
 refine⟨fun σ' H'=>H'=H/\σ'=[sr n,none],⟨_,rfl,_,rfl,.inl ⟨n,_,_,_,_,rfl,hn,rfl,rfl⟩⟩,?_⟩
 rintro σ' H1 ⟨rfl,rfl⟩
 refine⟨fun σ' H'=>H'=H1/\x.k≠ .none/\σ'=[sr n,none],?_,?_⟩
 . refine⟨_,rfl,n,CN,dn,_,_,rfl,en,N.cl,N.n1,B3n _ _ _ _,rfl,_,rfl,U6 (fun h=>?_) (fun h=>⟨rfl,neS (b:= .none) h,rfl⟩)⟩
   rw[if_pos (eqS (b:= .none) h), <-G0h] at k
   exact k
 rintro σ' H2 ⟨rfl,hN,rfl⟩
 rw[if_neg hN] at k
 refine⟨fun σ' H'=>H'=H2/\σ'=[sr n,sR (S (mkL x))],?_,?_⟩
 . refine⟨_,rfl,n,CN,dn,_,_,rfl,en,N.cl,N.n2,B7d _ _ _ _,rfl,_,rfl,U6 (fun h=>?_) (fun h=>?_)⟩
   . unfold mkL
     rw[if_pos (V.int.inj h), <-G8a]
     exact⟨rfl,rfl⟩
   . unfold mkL
     rw[if_neg (fun q=>h (congrArg V.int q)), <-G6p]
     exact⟨rfl,rfl⟩
 rintro σ' H3 ⟨rfl,rfl⟩
 have ml:(S (mkL x)).length<=1:=by
   rw[U9]
   unfold mkL
   split<;>decide
 refine⟨fun σ' H'=>H'=H3/\x.k≠ .end_/\σ'=[sr n,sR (S (mkL x))],?_,?_⟩
 . refine⟨_,rfl,n,CN,dn,_,_,rfl,en,N.cl,N.n1,B3n _ _ _ _,rfl,_,rfl,U6 (fun h=>?_) (fun h=>⟨rfl,neS (b:= .end_) h,rfl⟩)⟩
   rw[if_pos (eqS (b:= .end_) h), <-A5x, <-G6b] at k
   exact⟨_,rfl,_,_,rfl,rfl,B8 (by
       have:("end":Str).length=3:=by decide+kernel
       omega),k⟩
 rintro σ' H4 ⟨rfl,hE,rfl⟩
 rw[if_neg hE, <-A5x] at k
 have wl:=G8p ok
 exact⟨_,rfl,_,rfl,n,x,rfl,hn,ok,_,_,rfl,rfl,B8 (by rw[U9 (wwL x)];omega),k⟩
noncomputable abbrev B2d:Stmt:=(top 23)
noncomputable abbrev A2b:Stmt:=(top 128)
noncomputable abbrev B0p:Stmt:=(top 92)
noncomputable abbrev A7m:Stmt:=(top 84)
noncomputable def A3m (z:Str):Str:=if A1u z=true then B1p z (some 1) none else z
noncomputable def A2m (z:Str):Option Int:=if A4a (A3m z)=true then(if(A3m z).length>4 then none else some (if A1u z=true then -B3e (A3m z) else B3e (A3m z))) else none
theorem D9v(z:Str):(A3m z).length<=z.length:=by
 have b:=A8k z
 unfold A3m
 split
 . rename_i h
   unfold bare C3v at b
   unfold A1u at h
   rw[h,Bool.or_true,if_pos rfl] at b
   exact b
 exact Nat.le_refl _
noncomputable def B6c (K:Frag) (CB:Addr):Sp:=fun vs H Q E=>∃v,∃m:Int,vs=[v,.int m]/\m.natAbs.log2<1920/\(Str.ofString (toString m)).length<=100/\((A4r (-m) m v/\Q .non H)\/(B0h K H (-m) m v/\E (.ref CB) none H))
theorem D9w:B0 Q15 Q15 (A4 B2d):=scK
theorem D2h{f f1 CB:Addr}(D:Def K mg "need_count" Q15 B2d f fd)(D1:Def K mg "is_between" Q5 B8d f1 fd1)(O:Own mg)(T:Kit K)(B:Err K mg "BadCount" CB):sI P w K mg base 2 f fd Q15 (B6c K CB):=by
 have G1:=C1e (P:=P) (w:=w) (base:=base) D1 O T
 refine D.F.okE D9w (fun vs H Q E h=>?_) (fun X cdv A outer s H vs Q E hX hr hx h=>?_)
 . obtain⟨v,m,rfl,_⟩:=h
   rfl
 subst hX
 obtain⟨v,m,rfl,lm,ls,h⟩:=h
 refine⟨_,(A5 (D7 (A1k (V8 (C8 D1 G1 hr hx (A0 (pv 0) (A0 (A5w A2p (pv 1)) (A0 (pv 1) A1)))))) (A5 (Y7 (by rfl) B.g B.q PySem.F.excBase_ValueError hr.hd hx (A0 (B6r (.cons .lit (.cons (.int (pv 1)) (.cons .lit (.cons (.int (pv 1)) .nil))))) A1))) C6)),?_⟩
 rcases h with⟨g,k⟩|⟨g,k⟩
 . exact⟨_,rfl,_,rfl,_,rfl,_,rfl,_,_,_,rfl,.inl ⟨g,_,rfl,V1 k⟩⟩
 have a0:Str.empty.length=0:=rfl
 have a1:(Str.ofString "not a whole number from -").length=25:=by decide+kernel
 have a2:(Str.ofString " to ").length=4:=by decide+kernel
 have l3:(Str.ofString (toString m)).length<=100:=ls
 have l4:=l3
 have sz:∀{n:Nat},n<=1000 ->n<=sizeLine:=fun h=>Nat.le_of_lt (Y6 h)
 refine⟨_,rfl,_,rfl,_,rfl,_,rfl,_,_,_,rfl,.inr ⟨g,_,rfl,Y1 ?_⟩⟩
 exact⟨_,rfl,sz (by rw[strLen_append];omega),_,rfl,_,rfl,lm,_,rfl,sz (by rw[strLen_append,strLen_append];omega),_,rfl,sz (by rw[strLen_append,strLen_append,strLen_append];omega),_,rfl,_,rfl,lm,_,rfl,sz (by rw[strLen_append,strLen_append,strLen_append,strLen_append];omega),sz (by rw[strLen_append,strLen_append,strLen_append,strLen_append];omega),sz (by show 1<=1000;decide),k⟩
noncomputable def A4m (CB:Addr):Sp:=fun vs H Q E=>∃z:Str,vs=[.str z]/\z.length<=900/\((∃n,A2m z=some n/\Q (.int n) H)\/(A2m z=none/\E (.ref CB) none H))
theorem scCountRead:B0 ["word","digits"] ["word"] (A4 A2b):=scK
theorem B6z{f f1 CB:Addr}(D:Def K mg "count_read" ["word"] A2b f fd)(dA:Def K mg "are_figures" ["digits"] A8e f1 fd1)(B:Err K mg "BadCount" CB)(O:Own mg):sI P w K mg base 2 f fd ["word"] (A4m CB):=by
 have G_are_figures:=B4z (P:=P) (w:=w) (base:=base) dA
 refine D.F.okE scCountRead (fun vs H Q E h=>?_) (fun X cdv A outer s H vs Q E hX hr hx h=>?_)
 . obtain⟨z,rfl,_⟩:=h
   rfl
 subst hX
 obtain⟨z,rfl,hz,h⟩:=h
 refine⟨_,(A2 (B7 (D3 (i:=1) scCountRead.nd rfl (Or.inl rfl) (U1 (V8 (A1q PySem.F.plainAttrs_str PySem.F.slot_str_startswith PySem.F.type_str_startswith A9h (pv 0) (A0 A3 A1))) (A0m B2x (pv 0) (A1e A7) A1g) (pv 0)))) (A2 (B7 (D7 (PW.pt (D1g (A1k (V8 (C8 dA G_are_figures hr hx (A0 (pv 1) A1)))) (C1y (B9 A8c (U2 Z1 (by rfl) O.len_ PySem.boot_len (A0 (pv 1) A1)) A7 (C0 _))))) (A5 (B7 (Y7 (by rfl) B.g B.q PySem.F.excBase_ValueError hr.hd hx (A0 A3 A1)))) C6)) (A5 (A8 (U1 (V8 (A1q PySem.F.plainAttrs_str PySem.F.slot_str_startswith PySem.F.type_str_startswith A9h (pv 0) (A0 A3 A1))) (A5w A2p (Z4 A0p (by rfl) O.int_ boot_int (A0 (pv 1) A1))) (Z4 A0p (by rfl) O.int_ boot_int (A0 (pv 1) A1))))))),?_⟩
 have cl:=D9v z
 refine⟨fun σ' H'=>H'=H/\σ'=[sR z,sR (A3m z)],?_,?_⟩
 . refine⟨_,rfl,rfl,z,_,rfl,rfl,_,rfl,?_⟩
   cases hb:Txt.startswith z "-" with
   | true=>
     have e:A3m z=B1p z (some 1) none:=by unfold A3m A1u;rw[hb,if_pos rfl]
     rw[e] at cl ⊢
     exact Y1 ⟨_,rfl,1,rfl,z,rfl,B8 (by omega),rfl,rfl⟩
   | false=>
     have e:A3m z=z:=by unfold A3m A1u;rw[hb,if_neg Bool.false_ne_true]
     rw[e]
     exact V1 ⟨_,rfl,rfl,rfl⟩
 rintro σ' H1 ⟨rfl,rfl⟩
 unfold A2m at h
 have no:(¬A4a (A3m z)=true\/(A3m z).length>4) ->E (.ref CB) none H1:=fun q=>by
   rcases h with⟨n,e,_⟩|⟨_,k⟩
   . exfalso
     by_cases hf:A4a (A3m z)=true
     . rw[if_pos hf] at e
       rcases q with q|q
       . exact q hf
       . rw[if_pos q] at e;cases e
     . rw[if_neg hf] at e;cases e
   . exact k
 by_cases hf:A4a (A3m z)=true
 . by_cases hl:(A3m z).length>4
   . exact⟨fun _ _=>False,⟨_,rfl,_,rfl,by omega,_,rfl,by rw[hf];exact V1 ⟨_,rfl,_,rfl,B8 (by omega),_,_,rfl,rfl,_,rfl,A0y (show(4:Int)<((A3m z).length:Int) by omega) ⟨fun _ _=>False,⟨B8 (by show 1<=1000;decide),no (.inr hl)⟩,fun _ _ h=>h.elim⟩⟩⟩,fun _ _ h=>h.elim⟩
   . refine⟨fun σ' H'=>H'=H1/\σ'=[sR z,sR (A3m z)],⟨_,rfl,_,rfl,by omega,_,rfl,by rw[hf];exact V1 ⟨_,rfl,_,rfl,B8 (by omega),_,_,rfl,rfl,_,rfl,A0s (show¬(4:Int)<((A3m z).length:Int) by omega) ⟨rfl,rfl⟩⟩⟩,?_⟩
     rintro σ' H2 ⟨rfl,rfl⟩
     rw[if_pos hf,if_neg hl] at h
     rcases h with⟨n,e,k⟩|⟨e,_⟩
     . obtain rfl:=Option.some.inj e
       refine⟨_,rfl,rfl,z,_,rfl,rfl,_,rfl,?_⟩
       unfold A1u at k
       cases hm:Txt.startswith z "-" with
       | true=>
         rw[hm,if_pos rfl] at k
         exact Y1 ⟨_,rfl,_,_,rfl,G0t hf (by omega),by omega,_,rfl,k⟩
       | false=>
         rw[hm,if_neg Bool.false_ne_true] at k
         exact V1 ⟨_,rfl,_,_,rfl,G0t hf (by omega),by omega,k⟩
     . cases e
 exact⟨fun _ _=>False,⟨_,rfl,_,rfl,by omega,_,rfl,by rw[Bool.eq_false_iff.mpr hf];exact Y1 ⟨fun _ _=>False,⟨B8 (by show 1<=1000;decide),no (.inl hf)⟩,fun _ _ h=>h.elim⟩⟩,fun _ _ h=>h.elim⟩
noncomputable def A5g (CN CB:Addr) (m:Int):Sp:=fun vs H Q E=>∃c n x,∃k:Int,vs=[.ref c,.ref n,.int k]/\Y0 CN H n x/\(k< -m\/m<k)/\E (.ref CB) none H
theorem D1e:B0 ["context","one","count","sign","ideal","product","exact"] Q10 (A4 B0p):=scK
theorem C0g{f f1 f2 CN CB CB':Addr}(D:Def K mg "to_power" Q10 B0p f fd)(dA:Def K mg "need_number" ["thing"] A6h f1 fd1)(dB:sI P w K mg base 1 f1 fd1 ["thing"] (A8f K CN CB'))(dC:Def K mg "need_count" Q15 B2d f2 fd2)(dE:sI P w K mg base 2 f2 fd2 Q15 (B6c K CB))(T:Kit K):sI P w K mg base 3 f fd Q10 (A5g CN CB 20):=by
 refine D.F.okE D1e (fun vs H Q E h=>?_) (fun X cdv A outer s H vs Q E hX hr hx h=>?_)
 . obtain⟨c,n,x,k,rfl,_⟩:=h
   rfl
 subst hX
 obtain⟨c,n,x,ct,rfl,hn,hk,k⟩:=h
 refine⟨_,A2 (U5 (C8 dA dB hr hx (A0 (pv 1) A1))) (A2 (U5 (C8 dC dE hr hx (A0 (pv 2) (A0 A7 A1)))) D0f),?_⟩
 exact⟨_,rfl,_,rfl,.inl ⟨n,_,_,_,_,rfl,hn,_,rfl,_,20,rfl,by decide+kernel,by decide+kernel,.inr ⟨A5k T hk,k⟩⟩⟩
theorem C7h:B0 Q10 Q10 (A4 A7m):=scK
theorem B7u{f f1 f2 CN CB CB':Addr}(D:Def K mg "scaled" Q10 A7m f fd)(dA:Def K mg "need_number" ["thing"] A6h f1 fd1)(dB:sI P w K mg base 1 f1 fd1 ["thing"] (A8f K CN CB'))(dC:Def K mg "need_count" Q15 B2d f2 fd2)(dE:sI P w K mg base 2 f2 fd2 Q15 (B6c K CB))(T:Kit K):sI P w K mg base 3 f fd Q10 (A5g CN CB 100):=by
 refine D.F.okE C7h (fun vs H Q E h=>?_) (fun X cdv A outer s H vs Q E hX hr hx h=>?_)
 . obtain⟨c,n,x,k,rfl,_⟩:=h
   rfl
 subst hX
 obtain⟨c,n,x,ct,rfl,hn,hk,k⟩:=h
 refine⟨_,A2 (U5 (C8 dA dB hr hx (A0 (pv 1) A1))) (A2 (U5 (C8 dC dE hr hx (A0 (pv 2) (A0 A7 A1)))) D0f),?_⟩
 exact⟨_,rfl,_,rfl,.inl ⟨n,_,_,_,_,rfl,hn,_,rfl,_,100,rfl,by decide+kernel,by decide+kernel,.inr ⟨A5k T hk,k⟩⟩⟩
noncomputable def rdS (zs:List Str):PyData:= .list (zs.map PyData.str)
noncomputable def OkL (zs:List Str):Prop:=zs.length<=100/\∀z∈zs,PyData.strOk z=true
theorem J2g:∀{zs:List Str},(∀z∈zs,PyData.strOk z=true) ->PyData.canLayAll0 (zs.map PyData.str)=true/\PyData.depthAll (zs.map PyData.str)<=1
 | [],_=>by simp[PyData.canLayAll0,PyData.depthAll]
 | z ::zs,h=>by
   obtain⟨a,b⟩:=J2g (zs:=zs) fun z' h'=>h z' (List.mem_cons_of_mem _ h')
   have c:=h z List.mem_cons_self
   constructor
   . simp[PyData.canLayAll0,PyData.canLay0,c,a]
   . simp only[List.map_cons,PyData.depthAll,PyData.depth]
     omega
theorem shS{zs:List Str}(h:OkL zs):SeqAt.shaped (rdS zs)=true:=by
 obtain⟨a,b⟩:=J2g h.2
 unfold SeqAt.shaped rdS
 simp only[PyData.canLay0,PyData.depth,a,Bool.and_true,Bool.and_eq_true,decide_eq_true_eq,List.length_map]
 exact⟨trivial,decide_eq_true (by omega)⟩
theorem J1n:∀zs:List Str,PyData.eqv (rdS zs) (rdS zs)=true:=by
 have h:∀zs:List Str,PyData.eqvAll (zs.map PyData.str) (zs.map PyData.str)=true:=fun zs=>by
   induction zs with
   |nil=>simp[PyData.eqvAll]
   |cons z zs ih=>simp[PyData.eqvAll,PyData.eqv,ih]
 intro zs
 simp[rdS,PyData.eqv,h]
theorem J2t{K:Frag}{H:Hp}:∀zs:List Str,B2z K H (zs.map V.str) (zs.map PyData.str)
 | []=> .nil
 |z::zs=> .cons (.str z) (J2t zs)
theorem A8y{K:Frag}{H:Hp}{p:Addr}{zs:List Str}(h:H p=some (.lst (zs.map V.str))):RdD K H (.ref p) (rdS zs):= .lst (SqL.of h) (J2t zs)
theorem J1j:∀z∈A1j,PyData.strOk z=true:=by decide+kernel
noncomputable abbrev C4z:Stmt:=(top 126)
noncomputable def NwL (H:Hp) (a b a' b':Addr):Prop:=∀z,H z≠none ->a≠z ->b≠z ->a'≠z/\b'≠z
theorem NwL.refl(H:Hp)(a b:Addr):NwL H a b a b:=fun _ _ h1 h2=>⟨h1,h2⟩
theorem C4y{H:Hp}{z q:Addr}(hz:H z≠none)(n:H q=none):q≠z:=fun e=>hz (e▸n)
theorem NwL.a{H:Hp}{a b a':Addr}(n:H a'=none):NwL H a b a' b:=fun z hz _ h2=>⟨C4y hz n,h2⟩
theorem NwL.b{H:Hp}{a b b':Addr}(n:H b'=none):NwL H a b a b':=fun z hz h1 _=>⟨h1,C4y hz n⟩
noncomputable def D4d (nm:Str) (ws xs ys:List Str):Option (Str×List Str×List Str):=
 if nm="trap" then(if ws.all A1j.contains=true then some ("done",xs,Z2 ws) else none)
 else if ws≠ [] then some ("no line",xs,ys)
 else if nm="clear" then some ("done",[],ys)
 else some (if xs=[] then "none up" else Txt.join " " xs,xs,ys)
noncomputable def J6x (CC CB:Addr) (H:Hp) (c:Addr) (v:Cv) (a b:Addr) (Q:VK) (E:XK):Option (Str×List Str×List Str) ->Prop
 |some q=>∀a' b' H',Exc c H H' ->V4 CC H' c v a' b' q.2.1 q.2.2 ->NwL H a b a' b' ->Q (.str q.1) H'
 |none=>∀H',B5 H H' ->E (.ref CB) none H'
theorem C4d{zs:List Str}:PyData.eqv (rdS zs) (rdS [])=decide (zs=[]):=by
 cases zs with
 |nil=>exact J1n []
 |cons z zs=>rw[decide_eq_false (fun q=>nomatch q)];simp[rdS,PyData.eqv,PyData.eqvAll]
theorem G3t:OkL []:=⟨by decide,fun z hz=>nomatch hz⟩
theorem B2y{xs:List Str}(h:(xs.map (·.length)).sum+xs.length<=900):JoinOk " " xs=true:=by
 unfold JoinOk
 rw[PySem.StrLaws.joinTotal,show(" ":Str).length=1 by decide+kernel,Nat.mul_one,B1a (B8 (by omega))]
 rfl
theorem B4u:∀{ws:List Str},¬ws.all A1j.contains=true ->∃zs x r,ws=zs++x::r/\(∀z∈zs,z∈A1j)/\x ∉ A1j
 | [],h=>absurd rfl h
 | w ::ws,h=>by
   by_cases hw:w∈A1j
   . obtain⟨zs,x,r,e,h1,h2⟩:=B4u (ws:=ws) fun q=>h (by rw[List.all_cons,q,Bool.and_true];simpa using hw)
     exact⟨w::zs,x,r,by rw[e];rfl,fun z hz=>(List.mem_cons.mp hz).elim (fun q=>q▸hw) (h1 z),h2⟩
   . exact⟨[],w,ws,rfl,(fun z hz=>nomatch hz),hw⟩
noncomputable def D3r (CC CB:Addr):Sp:=fun vs H Q E=>∃c v a b xs ys nm l ws,vs=[.ref c,.str nm,.ref l]/\V4 CC H c v a b xs ys/\H l=some (.lst (ws.map V.str))/\OkL ws/\OkL xs/\(xs.map (·.length)).sum+xs.length<=900/\J6x CC CB H c v a b Q E (D4d nm ws xs ys)
theorem scSigH:B0 ["context","name","rest","names"] Q13 (A4 C4z):=scK
theorem G0u{f CC CB:Addr}(D:Def K mg "signals_handled" Q13 C4z f fd)(C:B0n K mg CC)(MF:Has P w K mg base CC "flags" 1 ["self"] (A3d CC))(ME:Has P w K mg base CC "clear" 1 ["self"] (A6k CC))(MT:Has P w K mg base CC "trap" 2 Q14 (B6w K CC CB))(T:Kit K):sI P w K mg base 3 f fd Q13 (D3r CC CB):=by
 refine D.F.okE scSigH (fun vs H Q E h=>?_) (fun X cdv A outer s H vs Q E hX hr hx h=>?_)
 . obtain⟨c,v,a,b,xs,ys,nm,l,ws,rfl,_⟩:=h
   rfl
 subst hX
 obtain⟨c,v,a,b,xs,ys,nm,l,ws,rfl,hc,el,okw,okx,jl,k⟩:=h
 obtain⟨ff,fdf,mf,gf,bf⟩:=MF
 obtain⟨fe,fde,me,ge,be⟩:=ME
 obtain⟨ft,fdt,mt,gt,bt⟩:=MT
 have hu:=hr.units
 have z0:0<=sizeLine:=Nat.zero_le _
 refine⟨_,(A2 (B7 (D7 (B9 D9 (pv 1) A3 (C0 _)) (A2 (B7 (U5 (A4g (pv 0) C.cl mt gt hr bt .nil hx (A0 (pv 2) A1)))) (A5 (A8 A3))) C6)) (A2 (B7 (D7 (B9 (G7n hr.units) (pv 2) (U0 A1) (C0 _)) (A5 (A8 A3)) C6)) (A2 (B7 (D7 (B9 D9 (pv 1) A3 (C0 _)) (A2 (B7 (U5 (A0g (pv 0) C.cl me ge hr be .nil hx))) (A5 (A8 A3))) C6)) (A2 (B7 (D3 (i:=3) scSigH.nd rfl (Or.inl rfl) (A0g (pv 0) C.cl mf gf hr bf .nil hx))) (A5 (A8 (U1 (B9 (C9t hr.units) (pv 3) (U0 A1) (C0 _)) A3 (A1q PySem.F.plainAttrs_str PySem.F.slot_str_join PySem.F.type_str_join B6h A3 (A0 (pv 3) A1))))))))),?_⟩
 obtain⟨dx,ec⟩:=hc.ins
 unfold D4d at k
 refine⟨fun σ' H'=>H'=H/\¬nm="trap"/\σ'=[sr c,sR nm,sr l,none],?_,?_⟩
 . refine⟨_,rfl,rfl,_,rfl,U6 (fun h=>?_) (fun h=>⟨rfl,fun q=>h (congrArg V.str q),rfl⟩)⟩
   have h:nm="trap":=V.str.inj h
   rw[if_pos h] at k
   by_cases hg:ws.all A1j.contains=true
   . rw[if_pos hg] at k
     refine⟨fun σ' H'=>∃b',Exc c H H'/\V4 CC H' c v a b' xs (Z2 ws)/\NwL H a b a b',⟨_,rfl,c,dx,_,rfl,ec,A4n _ _ _ _ _ _,_,rfl,c,v.r,v.y,v.l,v.m,a,b,_,_,_,rfl,hc,.inl ⟨l,ws,rfl,el,fun z hz=>?_,fun b' H' x nb ct=>⟨b',x,ct,NwL.b nb⟩⟩⟩,?_⟩
     . have:=List.all_eq_true.mp hg z hz
       simpa using this
     rintro σ' H' ⟨b',x,ct,nw⟩
     exact k a b' H' x ct nw
   . rw[if_neg hg] at k
     obtain⟨zs,x,r,e,h1,h2⟩:=B4u hg
     refine⟨fun _ _=>False,⟨_,rfl,c,dx,_,rfl,ec,A4n _ _ _ _ _ _,_,rfl,c,v.r,v.y,v.l,v.m,a,b,_,_,_,rfl,hc,.inr ⟨.inr ⟨l,zs,.str x,r.map V.str,rfl,?_,h1,_,_,B4r _,T.str_str,.inr ⟨x,rfl,h2⟩⟩,k H (B5.refl _)⟩⟩,fun _ _ h=>h.elim⟩
     rw[el,e,List.map_append]
     rfl
 rintro σ' H1 ⟨rfl,hnt,rfl⟩
 rw[if_neg hnt] at k
 refine⟨fun σ' H'=>B5 H1 H'/\ws=[]/\σ'=[sr c,sR nm,sr l,none],?_,?_⟩
 . refine⟨_,rfl,z0,fun p np=>?_⟩
   have u:=B5.upd (o:= .lst []) np
   refine⟨rdS ws,rdS [],A8y (u _ _ el),A8y (zs:=[]) A6,shS okw,shS G3t,_,rfl,?_⟩
   rw[if_pos rfl,C4d]
   by_cases hw:ws=[]
   . rw[decide_eq_true hw]
     exact V1 ⟨u,hw,rfl⟩
   . rw[decide_eq_false hw]
     rw[if_pos hw] at k
     exact Y1 (k a b _ (Exc.of u) (hc.same u) (NwL.refl _ _ _))
 rintro σ' H2 ⟨s2,rfl,rfl⟩
 rw[if_neg (fun q=>q rfl)] at k
 refine⟨fun σ' H'=>H'=H2/\¬nm="clear"/\σ'=[sr c,sR nm,sr l,none],?_,?_⟩
 . refine⟨_,rfl,rfl,_,rfl,U6 (fun h=>?_) (fun h=>⟨rfl,fun q=>h (congrArg V.str q),rfl⟩)⟩
   have h:nm="clear":=V.str.inj h
   rw[if_pos h] at k
   refine⟨fun σ' H'=>∃a',H1 a'=none/\Exc c H2 H'/\V4 CC H' c v a' b [] ys,⟨_,rfl,c,dx,_,rfl,s2 _ _ ec,B5x _ _ _ _ _ _,c,v.r,v.y,v.l,v.m,a,b,_,_,rfl,hc.same s2,fun a' H' x na ct=>⟨a',s2.free na,x,ct⟩⟩,?_⟩
   rintro σ' H' ⟨a',na,x,ct⟩
   exact k a' b H' ((Exc.of s2).trans x) ct (NwL.a na)
 rintro σ' H3 ⟨rfl,hnc,rfl⟩
 rw[if_neg hnc] at k
 refine⟨fun σ' H'=>∃p,B5 H3 H'/\H' p=some (.lst (xs.map V.str))/\σ'=[sr c,sR nm,sr l,sr p],⟨_,rfl,c,dx,_,rfl,s2 _ _ ec,A6u _ _ _ _ _ _,c,v.r,v.y,v.l,v.m,a,b,_,_,rfl,hc.same s2,fun p np=>⟨p,B5.upd np,A6,rfl⟩⟩,?_⟩
 rintro σ' H4 ⟨p,s4,ep,rfl⟩
 refine⟨_,rfl,z0,fun q nq=>?_⟩
 have u:=B5.upd (o:= .lst []) nq
 refine⟨rdS xs,rdS [],A8y (u _ _ ep),A8y (zs:=[]) A6,shS okx,shS G3t,_,rfl,?_⟩
 have sH:=s2.trans (s4.trans u)
 rw[if_neg Bool.false_ne_true,C4d]
 by_cases hx0:xs=[]
 . rw[decide_eq_true hx0]
   rw[if_pos hx0] at k
   exact Y1 (k a b _ (Exc.of sH) (hc.same sH) (NwL.refl _ _ _))
 rw[decide_eq_false hx0]
 rw[if_neg hx0] at k
 exact V1 ⟨rfl,_,rfl,_,p,xs,rfl,rfl,SqL.of (u _ _ ep),B2y jl,k a b _ (Exc.of sH) (hc.same sH) (NwL.refl _ _ _)⟩
noncomputable abbrev B6e:Stmt:=(top 125)
deriving instance DecidableEq for Wy
inductive Chg where
 |noline|nocount|bad|ok (v:Cv)
noncomputable def wys:List Wy:=[.down,.up,.floor,.ceiling,.halfUp,.halfDown,.halfEven,.fiveUp]
theorem G0q(y:Wy):y∈wys:=by cases y<;>simp[wys]
noncomputable def A2t (z:Str):Option Wy:=wys.find? fun y=>y.name=z
theorem D0v{z:Str}{y:Wy}(h:A2t z=some y):z=y.name:=by
 have:=List.find?_some h
 exact(of_decide_eq_true this).symm
theorem D3m{z:Str}(h:A2t z=none):∀y:Wy,z≠y.name:=fun y e=>by
 have:=List.find?_eq_none.mp h y (G0q y)
 exact this (decide_eq_true e.symm)
theorem B8c(y:Wy):A2t y.name=some y:=by cases y<;>decide+kernel
noncomputable def mkC (r:Int) (y:Option Wy) (l m:Int):Chg:=match y with
 |none=> .bad
 |some y=>if(1<=r/\r<=24)/\(-60<=l/\l<=0)/\0<=m/\m<=60 then .ok ⟨r,y,l,m⟩ else .bad
noncomputable def A3k (v:Cv) (nm:Str) (ws:List Str):Chg:=
 if nm="room"/\ws.length=1 then(match A2m (ws.getD 0 "") with|none=> .nocount|some n=>mkC n (some v.y) v.l v.m)
 else if nm="way"/\(ws.length=1\/ws.length=2) then mkC v.r (A2t (Txt.join " " ws)) v.l v.m
 else if nm="bounds"/\ws.length=2 then(match A2m (ws.getD 0 "") with|none=> .nocount|some a=>match A2m (ws.getD 1 "") with|none=> .nocount|some b=>mkC v.r (some v.y) a b)
 else .noline
noncomputable def MkP (CC CB:Addr) (H:Hp) (x:Addr) (Q:Hp ->Prop) (E:XK):Chg ->Prop
 | .ok v=>∀a b H',B5 H H' ->H a=none ->H b=none ->V4 CC H' x v a b [] [] ->Q H'
 |_=>∀H',B5 H H' ->E (.ref CB) none H'
theorem C2b{K:Frag}{CC CB x dx:Addr}{H:Hp}{Q:Hp ->Prop}{E:XK}{r l m:Int}{z:Str}(T:Kit K)(n1:H x=none)(n2:H dx=none)(ne:dx≠x)(h:MkP CC CB H x Q E (mkC r (A2t z) l m)):
   A5p K CC CB (.ref x::([.int r,.str z,.int l,.int m]++ [])) (upd (upd H dx (.own x)) x (.ins CC dx [])) (fun v H2=>v= .non/\Q H2) E:=by
 cases hw:A2t z with
 | none=>
   rw[hw] at h
   have h:∀H',B5 H H' ->E (.ref CB) none H':=h
   have nw:=D3m hw
   by_cases hr:1<=r/\r<=24
   . exact D1f n1 n2 ne (.inr ⟨⟨r,rfl,hr.1,hr.2⟩,.inl fun H' _=>⟨_,_,B4r _,T.str_str,.inr ⟨z,rfl,nw⟩⟩⟩) h
   . exact D1f n1 n2 ne (.inl fun H' _=>A5k T (by omega)) h
 | some y=>
   rw[hw] at h
   have ez:=D0v hw
   unfold mkC at h
   dsimp only at h
   by_cases hg:(1<=r/\r<=24)/\(-60<=l/\l<=0)/\0<=m/\m<=60
   . rw[if_pos hg] at h
     refine⟨x,dx,_,_,_,_,rfl,A6,.inl ⟨r,y,l,m,rfl,hg.1.1,hg.1.2,by rw[ez],.inr ⟨rfl,hg.2.1.1,hg.2.1.2⟩,rfl,hg.2.2.1,hg.2.2.2,fun a b H4 e na nb c=>⟨rfl,?_⟩⟩⟩
     have free:∀q,upd (upd H dx (.own x)) x (.ins CC dx []) q=none ->H q=none:=fun q hq=>by
       by_cases q1:q=x
       . rw[q1];exact n1
       . rw[C9 q1] at hq
         by_cases q2:q=dx
         . rw[q2];exact n2
         . rw[C9 q2] at hq;exact hq
     exact h a b H4 (A6x n1 n2 ne e) (free a na) (free b nb) c
   . rw[if_neg hg] at h
     have h:∀H',B5 H H' ->E (.ref CB) none H':=h
     by_cases hr:1<=r/\r<=24
     . by_cases hl: -60<=l/\l<=0
       . exact D1f n1 n2 ne (.inr ⟨⟨r,rfl,hr.1,hr.2⟩,.inr ⟨⟨y,by rw[ez]⟩,.inr ⟨⟨l,.inr ⟨rfl,hl.1,hl.2⟩⟩,fun H' _=>A5k T (by omega)⟩⟩⟩) h
       . exact D1f n1 n2 ne (.inr ⟨⟨r,rfl,hr.1,hr.2⟩,.inr ⟨⟨y,by rw[ez]⟩,.inl ⟨(fun q=>nomatch q),fun H' _=>A5k T (by omega)⟩⟩⟩) h
     . exact D1f n1 n2 ne (.inl fun H' _=>A5k T (by omega)) h
theorem B0w{xs:List Str}(h:Z2 xs=xs):∀z∈xs,z∈A1j:=fun z hz=>by
 rw[<-h] at hz
 exact(List.mem_filter.mp hz).1
theorem B1e{xs:List Str}(h:Z2 xs=xs):xs.length<=7:=by
 rw[<-h]
 exact List.length_filter_le _ _
theorem G5s{xs:List Str}(h:Z2 xs=xs):OkL xs:=⟨by have:=B1e h;omega,fun z hz=>J1j z (B0w h z hz)⟩
theorem G2x{xs:List Str}(h:Z2 xs=xs):(xs.map (·.length)).sum+xs.length<=900:=by
 have a:∀z∈A1j,z.length<=5:=by decide+kernel
 have b:∀l:List Str,(∀z∈l,z.length<=5) ->(l.map (·.length)).sum<=5*l.length:=by
   intro l
   induction l with
   |nil=>intro _;exact Nat.le_refl _
   | cons z l ih=>
     intro hl
     have:=ih fun z hz=>hl z (List.mem_cons_of_mem _ hz)
     have:=hl z List.mem_cons_self
     simp only[List.map_cons,List.sum_cons,List.length_cons]
     omega
 have:=b xs fun z hz=>a z (B0w h z hz)
 have:=B1e h
 omega
structure B9z(K:Frag)(mg:Str ->Option Value)(CD:Addr):Prop where
 g:mg "Desk"=some (.ref CD)
 cl:Cls K CD
 n:Z0 K CD "context"
noncomputable def A1p (CD:Addr) (H:Hp) (d c:Addr):Prop:=∃dx,H d=some (.ins CD dx [("context",.ref c)])
noncomputable def J6m (CD CC C3 C4:Addr) (H:Hp) (d:Addr) (xs ys:List Str) (Q:VK) (E:XK):Chg ->Prop
 | .noline=>∀H',B5 H H' ->Q (.str "no line") H'
 | .nocount=>∀H',B5 H H' ->E (.ref C4) none H'
 | .bad=>∀H',B5 H H' ->E (.ref C3) none H'
 | .ok v'=>∀c' a' b' H',Exc d H H' ->H c'=none ->H a'=none ->H b'=none ->A1p CD H' d c' ->V4 CC H' c' v' a' b' xs ys ->Q (.str "done") H'
noncomputable def C3z (CD CC C3 C4:Addr):Sp:=fun vs H Q E=>∃d c v a b xs ys nm l ws,vs=[.ref d,.str nm,.ref l]/\A1p CD H d c/\V4 CC H c v a b xs ys/\Z2 xs=xs/\Z2 ys=ys/\H l=some (.lst (ws.map V.str))/\ws.length<=100/\(ws.map (·.length)).sum+ws.length<=900/\J6m CD CC C3 C4 H d xs ys Q E (A3k v nm ws)
theorem scCtxCh:B0 ["desk","name","rest","old","rule","changed"] Q38 (A4 B6e):=scK
noncomputable abbrev st6 (d:Addr) (nm:Str) (l:Addr) (x3 x4 x5:Option V):L2.St:=[sr d,sR nm,sr l,x3,x4,x5]
theorem B0r{ws:List Str}{i:Nat}{z:Str}(h:ws[i]?=some z):z.length<=(ws.map (·.length)).sum:=by
 induction ws generalizing i with
 |nil=>simp at h
 | cons y r ih=>
   simp only[List.map_cons,List.sum_cons]
   cases i with
   | zero => have:y=z:=by simpa using h
             subst this;omega
   |succ i=>have:=ih (i:=i) (by simpa using h);omega
theorem D0t {f f1 fI CD CC C3 C4 CT CW:Addr} {cw:Wy ->Addr} {fd fd1 fdI:FuncData} (D:Def K mg "context_changed" Q38 B6e f fd) (dA:Def K mg "count_read" ["word"] A2b f1 fd1) (dB:sI P w K mg base 2 f1 fd1 ["word"] (A4m C4)) (DC:B9z K mg CD) (CM:A5v P w K mg base CC C3 CT CW cw) (WN:∀y:Wy,G2m P w K mg base (cw y) y.name) (MC:D4g P w K mg base CC C3 fI fdI) (B4:L2.Binds K fdI Q26 []) (MF:Has P w K mg base CC "flags" 1 ["self"] (A3d CC)) (MT:Has P w K mg base CC "trap" 2 Q14 (B6w K CC C3)) (MTS:Has P w K mg base CC "traps" 1 ["self"] (A6c CC)) (T:Kit K) (O:Own mg):sI P w K mg base 5 f fd Q38 (C3z CD CC C3 C4):=by
 refine D.F.okE scCtxCh (fun vs H Q E h=>?_) (fun X cdv A outer s H vs Q E hX hr hx h=>?_)
 . obtain⟨d,c,v,a,b,xs,ys,nm,l,ws,rfl,_⟩:=h
   rfl
 subst hX
 obtain⟨d,c,v,a,b,xs,ys,nm,l,ws,rfl,⟨dd,ed⟩,hc,ox,oy,el,lw,sw,k⟩:=h
 have C:=CM.c
 obtain⟨ff,fdf,mf,gf,bf⟩:=MF
 obtain⟨ft,fdt,mt,gt,bt⟩:=MT
 obtain⟨fs,fds,ms,gs,bs⟩:=MTS
 obtain⟨fr,fdr,mr,gr,br⟩:=CM.raised
 obtain⟨fW,fdW,mW,gW,bW⟩:=CM.way
 obtain⟨fU,fdU,mU,gU,bU⟩:=WN v.y
 have z2:2<=sizeLine:=B8 (by decide)
 refine⟨_,(A2 (B7 (D3 (i:=3) scCtxCh.nd rfl (Or.inl rfl) (D6 (pv 0) rfl))) (A2 (B7 (D3 (i:=4) scCtxCh.nd rfl (Or.inl rfl) (A0g (A0g (pv 3) C.cl mW gW hr bW .nil hx) (CM.wc v.y).cl mU gU hr bU .nil hx))) (A2 (B7 (D7 (PW.pt (A9b (B9 D9 (pv 1) A3 (C0 _)) (A5j (B9 D9 (U2 Y3 (by rfl) O.len_ PySem.boot_len (A0 (pv 2) A1)) A7 (C0 _))))) (A5 (B7 (D3 (i:=5) scCtxCh.nd rfl (Or.inl rfl) (A5y MC.m MC.g hr C.g B4 .nil hx (A0 (C8 dA dB hr hx (A0 (V3 V9 (pv 2) A7 (fun _ _=>rfl)) A1)) (A0 (pv 4) (A0 (D6 (pv 3) rfl) (A0 (D6 (pv 3) rfl) A1)))))))) (A5 (B7 (D7 (PW.pt (A9b (B9 D9 (pv 1) A3 (C0 _)) (A5j (B9 A0t (U2 Y3 (by rfl) O.len_ PySem.boot_len (A0 (pv 2) A1)) (G6 (A0 A7 (A0 A7 A1))) (by rfl))))) (A5 (B7 (D3 (i:=5) scCtxCh.nd rfl (Or.inl rfl) (A5y MC.m MC.g hr C.g B4 .nil hx (A0 (D6 (pv 3) rfl) (A0 (A1q PySem.F.plainAttrs_str PySem.F.slot_str_join PySem.F.type_str_join B6h A3 (A0 (pv 2) A1)) (A0 (D6 (pv 3) rfl) (A0 (D6 (pv 3) rfl) A1)))))))) (A5 (B7 (D7 (PW.pt (A9b (B9 D9 (pv 1) A3 (C0 _)) (A5j (B9 D9 (U2 Y3 (by rfl) O.len_ PySem.boot_len (A0 (pv 2) A1)) A7 (C0 _))))) (A5 (B7 (D3 (i:=5) scCtxCh.nd rfl (Or.inl rfl) (A5y MC.m MC.g hr C.g B4 .nil hx (A0 (D6 (pv 3) rfl) (A0 (pv 4) (A0 (C8 dA dB hr hx (A0 (V3 V9 (pv 2) A7 (fun _ _=>rfl)) A1)) (A0 (C8 dA dB hr hx (A0 (V3 V9 (pv 2) A7 (fun _ _=>rfl)) A1)) A1)))))))) (A5 (A8 A3)))))))))) (A2 (B7 (U5 (A4g (pv 5) C.cl mr gr hr br .nil hx (A0 (A0g (pv 3) C.cl mf gf hr bf .nil hx) A1)))) (A2 (B7 (U5 (A4g (pv 5) C.cl mt gt hr bt .nil hx (A0 (A0g (pv 3) C.cl ms gs hr bs .nil hx) A1)))) (A2 (B7 (Z6 (pv 0) (pv 5) rfl)) (A5 (A8 A3)))))))),?_⟩
 obtain⟨dx,ec⟩:=hc.ins
 refine⟨fun σ' H'=>H'=H/\σ'=st6 d nm l (some (.ref c)) none none,⟨_,rfl,d,CD,dd,_,_,rfl,ed,DC.cl,DC.n,rfl,rfl,rfl⟩,?_⟩
 rintro σ' H1 ⟨rfl,rfl⟩
 refine⟨fun σ' H'=>B5 H1 H'/\σ'=st6 d nm l (some (.ref c)) (some (.str v.y.name)) none,⟨_,rfl,c,dx,_,rfl,ec,A3n _ _ _ _ _ _,c,v.r,v.y,v.l,v.m,a,b,_,_,rfl,hc,fun q dq H2 nq s2 eq=>⟨q,dq,_,rfl,eq,rfl,q,rfl,s2,rfl⟩⟩,?_⟩
 rintro σ' H2 ⟨s2,rfl⟩
 have el2:=s2 _ _ el
 have ec2:=s2 _ _ ec
 have hc2:=hc.same s2
 refine⟨fun σ' H'=>∃c' v' a' b',A3k v nm ws= .ok v'/\B5 H1 H'/\H1 c'=none/\V4 CC H' c' v' a' b' [] []/\σ'=st6 d nm l (some (.ref c)) (some (.str v.y.name)) (some (.ref c')),?_,?_⟩
 . have ML : (ws.map V.str).length=ws.length:=List.length_map _
   have fin:∀{r l' m:Int} {z:Str} {x:Addr},H2 x=none ->A3k v nm ws=mkC r (A2t z) l' m ->MkP CC C3 H2 x (fun H'=>∃c' v' a' b',A3k v nm ws= .ok v'/\B5 H1 H'/\H1 c'=none/\V4 CC H' c' v' a' b' [] []/\st6 d nm l (some (.ref c)) (some (.str v.y.name)) (some (.ref x))=st6 d nm l (some (.ref c)) (some (.str v.y.name)) (some (.ref c'))) (fun C dd H'=>E C dd H') (mkC r (A2t z) l' m):=fun{r l' m z x} nx e=>by
     rw[e] at k ⊢
     cases hm:mkC r (A2t z) l' m with
     |ok v'=>exact fun a' b' H' s' na nb ct=>⟨x,v',a',b',rfl,s2.trans s',s2.free nx,ct,rfl⟩
     | noline=>
       exfalso
       unfold mkC at hm
       split at hm
       . cases hm
       . split at hm<;>cases hm
     | nocount=>
       exfalso
       unfold mkC at hm
       split at hm
       . cases hm
       . split at hm<;>cases hm
     | bad=>
       rw[hm] at k
       exact fun H' s'=>k H' (s2.trans s')
   by_cases g1:nm="room"/\ws.length=1
   . obtain⟨z,rfl⟩:∃z,ws=[z]:=by
       match ws,g1.2 with
       | [z],_=>exact⟨z,rfl⟩
     have lz:=B0r (i:=0) (ws:=[z]) rfl
     refine⟨_,rfl,rfl,_,rfl,A0y (congrArg V.str g1.1) ⟨_,rfl,l,_,rfl,.inl (SqL.of el2),rfl,_,rfl,A0y rfl ⟨_,?_,fun _ _ h=>h⟩⟩⟩
     have e1:A3k v nm [z]=(match A2m z with|none=>Chg.nocount|some n=>mkC n (some v.y) v.l v.m):=by unfold A3k;rw[if_pos g1];rfl
     refine⟨_,rfl,l,_,_,_,rfl,rfl,SqL.of el2,G5 (j:=0) rfl,z,rfl,by omega,?_⟩
     cases hn:A2m z with
     | none=>
       rw[hn] at e1
       rw[e1] at k
       exact .inr ⟨rfl,k _ s2⟩
     | some n=>
       rw[hn] at e1
       refine .inl ⟨n,rfl,_,rfl,_,rfl,c,CC,dx,_,_,rfl,ec2,C.cl,C.n_least,A5b _ _ _ _ _ _,_,rfl,c,CC,dx,_,_,rfl,ec2,C.cl,C.n_most,A4e _ _ _ _ _ _,fun x dx' n1 n2 ne=>C2b T n1 n2 ne (fin n1 ?_)⟩
       rw[e1,B8c]
   . refine have els:= ?els;⟨_,rfl,rfl,_,rfl,U6 (fun h1=>⟨_,rfl,l,_,rfl,.inl (SqL.of el2),rfl,_,rfl,A0s (fun h2=>g1 ⟨V.str.inj h1,by have:=V.int.inj h2;omega⟩) els⟩) (fun _=>V1 els)⟩
     case els=>
     refine⟨_,?_,fun _ _ h=>h⟩
     by_cases g2:nm="way"/\(ws.length=1\/ws.length=2)
     . refine⟨_,rfl,rfl,_,rfl,A0y (congrArg V.str g2.1) ⟨_,rfl,l,_,rfl,.inl (SqL.of el2),z2,fun p np=>?_⟩⟩
       have u:=B5.upd (o:= .tup [.int 1,.int 2]) np
       refine⟨p,_,rfl,.inr (SqT.of A6),rfl,rfl,_,rfl,?_⟩
       have ein:inV (.int ((ws.map V.str).length:Int)) [.int 1,.int 2]=true:=by
         rw[ML]
         rcases g2.2 with q|q<;>rw[q]<;>rfl
       rw[if_neg Bool.false_ne_true,ein]
       refine Y1 ⟨_,?_,fun _ _ h=>h⟩
       have e2:A3k v nm ws=mkC v.r (A2t (Txt.join " " ws)) v.l v.m:=by unfold A3k;rw[if_neg g1,if_pos g2]
       refine⟨_,rfl,c,CC,dx,_,_,rfl,u _ _ ec2,C.cl,C.n_room,A1y _ _ _ _ _ _,rfl,_,rfl,_,l,ws,rfl,rfl,SqL.of (u _ _ el2),B2y sw,_,rfl,c,CC,dx,_,_,rfl,u _ _ ec2,C.cl,C.n_least,A5b _ _ _ _ _ _,_,rfl,c,CC,dx,_,_,rfl,u _ _ ec2,C.cl,C.n_most,A4e _ _ _ _ _ _,fun x dx' n1 n2 ne=>C2b T n1 n2 ne ?_⟩
       have ff:=fin (u.free n1) e2
       revert ff
       cases mkC v.r (A2t (Txt.join " " ws)) v.l v.m with
       |ok v'=>exact fun ff a' b' H' s' na nb ct=>ff a' b' H' (u.trans s') (u.free na) (u.free nb) ct
       |noline=>exact fun ff H' s'=>ff H' (u.trans s')
       |nocount=>exact fun ff H' s'=>ff H' (u.trans s')
       |bad=>exact fun ff H' s'=>ff H' (u.trans s')
     . by_cases hw:nm="way"
       . have e3:A3k v nm ws= .noline:=by
           unfold A3k
           rw[if_neg g1,if_neg g2,if_neg]
           rintro⟨q,_⟩
           rw[hw] at q
           exact absurd q (by decide+kernel)
         rw[e3] at k
         refine⟨_,rfl,rfl,_,rfl,A0y (congrArg V.str hw) ⟨_,rfl,l,_,rfl,.inl (SqL.of el2),z2,fun p np=>?_⟩⟩
         have u:=B5.upd (o:= .tup [.int 1,.int 2]) np
         refine⟨p,_,rfl,.inr (SqT.of A6),rfl,rfl,_,rfl,?_⟩
         have ein:inV (.int ((ws.map V.str).length:Int)) [.int 1,.int 2]=false:=by
           rw[ML]
           show((1:Int)==(ws.length:Int)||((2:Int)==(ws.length:Int)||false))=false
           rw[beq_eq_false_iff_ne.mpr (fun q=>g2 ⟨hw,.inl (by omega)⟩),beq_eq_false_iff_ne.mpr (fun q=>g2 ⟨hw,.inr (by omega)⟩)]
           rfl
         rw[if_neg Bool.false_ne_true,ein]
         refine V1 ⟨_,?_,fun _ _ h=>h⟩
         exact⟨_,rfl,rfl,_,rfl,A0s (fun q=>absurd ((V.str.inj q).symm.trans hw) (by decide+kernel)) (V1 (k _ (s2.trans u)))⟩
       . refine⟨_,rfl,rfl,_,rfl,A0s (fun q=>hw (V.str.inj q)) (V1 ⟨_,?_,fun _ _ h=>h⟩)⟩
         by_cases g3:nm="bounds"/\ws.length=2
         . obtain⟨z,y,rfl⟩:∃z y,ws=[z,y]:=by
             match ws,g3.2 with
             | [z,y],_=>exact⟨z,y,rfl⟩
           have lz:=B0r (i:=0) (ws:=[z,y]) rfl
           have ly:=B0r (i:=1) (ws:=[z,y]) rfl
           have e1:A3k v nm [z,y]=(match A2m z with|none=>Chg.nocount|some a=>match A2m y with|none=> .nocount|some b=>mkC v.r (some v.y) a b):=by unfold A3k;rw[if_neg g1,if_neg g2,if_pos g3];rfl
           refine⟨_,rfl,rfl,_,rfl,A0y (congrArg V.str g3.1) ⟨_,rfl,l,_,rfl,.inl (SqL.of el2),rfl,_,rfl,A0y rfl ⟨_,?_,fun _ _ h=>h⟩⟩⟩
           refine⟨_,rfl,c,CC,dx,_,_,rfl,ec2,C.cl,C.n_room,A1y _ _ _ _ _ _,_,rfl,_,rfl,l,_,_,_,rfl,rfl,SqL.of el2,G5 (j:=0) rfl,z,rfl,by omega,?_⟩
           cases hn:A2m z with
           | none=>
             rw[hn] at e1
             rw[e1] at k
             exact .inr ⟨rfl,k _ s2⟩
           | some n=>
             rw[hn] at e1
             refine .inl ⟨n,rfl,_,rfl,l,_,_,_,rfl,rfl,SqL.of el2,G5 (j:=1) rfl,y,rfl,by omega,?_⟩
             cases hn2:A2m y with
             | none=>
               rw[hn2] at e1
               rw[e1] at k
               exact .inr ⟨rfl,k _ s2⟩
             | some n2=>
               rw[hn2] at e1
               refine .inl ⟨n2,rfl,fun x dx' n1 n2' ne=>C2b T n1 n2' ne (fin n1 ?_)⟩
               rw[e1,B8c]
         . have e3:A3k v nm ws= .noline:=by
             unfold A3k
             rw[if_neg g1,if_neg g2,if_neg g3]
           rw[e3] at k
           exact⟨_,rfl,rfl,_,rfl,U6 (fun h1=>⟨_,rfl,l,_,rfl,.inl (SqL.of el2),rfl,_,rfl,A0s (fun h2=>g3 ⟨V.str.inj h1,by have:=V.int.inj h2;omega⟩) (k _ s2)⟩) (fun _=>V1 (k _ s2))⟩
 rintro σ' H3 ⟨c',v',a',b',ek,s3,nc,hc',rfl⟩
 rw[ek] at k
 have k:∀c' a' b' H',Exc d H1 H' ->H1 c'=none ->H1 a'=none ->H1 b'=none ->A1p CD H' d c' ->V4 CC H' c' v' a' b' xs ys ->Q (.str "done") H':=k
 obtain⟨dx',ec'⟩:=hc'.ins
 have ec3:=s3 _ _ ec
 have hc3:=hc.same s3
 refine⟨fun σ' H'=>∃a2,Exc c' H3 H'/\H1 a2=none/\V4 CC H' c' v' a2 b' xs []/\σ'=st6 d nm l (some (.ref c)) (some (.str v.y.name)) (some (.ref c')),?_,?_⟩
 . refine⟨_,rfl,c',dx',_,rfl,ec',A0q _ _ _ _ _ _,_,rfl,c,dx,_,rfl,ec3,A6u _ _ _ _ _ _,c,v.r,v.y,v.l,v.m,a,b,_,_,rfl,hc3,fun p np=>?_⟩
   have u:=B5.upd (o:= .lst (xs.map V.str)) np
   have hl:hit [] xs=none:=rfl
   refine⟨c',v'.r,v'.y,v'.l,v'.m,a',b',[],[],.ref p,rfl,hc'.same u,by show 0+100<=1000;decide,.inl ⟨p,xs,rfl,A6,by have:=B1e ox;omega,B0w ox,fun _ a2 H4 x4 na ct=>?_,fun t ht=>by rw[hl] at ht;cases ht⟩⟩
   rw[List.nil_append,ox] at ct
   exact⟨a2,(Exc.of u).trans x4,(s3.trans u).free na,ct,rfl⟩
 rintro σ' H4 ⟨a2,x4,na2,hc4,rfl⟩
 have ncc:c≠c':=D5 ec nc
 have keep:∀q o,H1 q=some o ->H4 q=some o:=fun q o e=>x4 _ _ (s3 _ _ e) (D5 e nc)
 obtain⟨dx4,ec4⟩:=hc4.ins
 have hc4o:V4 CC H4 c v a b xs ys:=hc.same keep
 obtain⟨dxo,eco⟩:=hc4o.ins
 refine⟨fun σ' H'=>∃b2,Exc c' H4 H'/\H1 b2=none/\V4 CC H' c' v' a2 b2 xs ys/\σ'=st6 d nm l (some (.ref c)) (some (.str v.y.name)) (some (.ref c')),?_,?_⟩
 . refine⟨_,rfl,c',dx4,_,rfl,ec4,A4n _ _ _ _ _ _,_,rfl,c,dxo,_,rfl,eco,B7e _ _ _ _ _ _,c,v.r,v.y,v.l,v.m,a,b,_,_,rfl,hc4o,fun p np=>?_⟩
   have u:=B5.upd (o:= .lst (ys.map V.str)) np
   refine⟨c',v'.r,v'.y,v'.l,v'.m,a2,b',_,_,.ref p,rfl,hc4.same u,.inl ⟨p,ys,rfl,A6,B0w oy,fun b2 H5 x5 nb ct=>?_⟩⟩
   rw[oy] at ct
   exact⟨b2,(Exc.of u).trans x5,(B5.trans keep u).free nb,ct,rfl⟩
 rintro σ' H5 ⟨b2,x5,nb2,hc5,rfl⟩
 have ndc:d≠c':=D5 ed nc
 have ed5:H5 d=some (.ins CD dd [("context",.ref c)]):=x5 _ _ (keep _ _ ed) ndc
 refine⟨fun σ' H'=>H'=upd H5 d (.ins CD dd [("context",.ref c')])/\σ'=st6 d nm l (some (.ref c)) (some (.str v.y.name)) (some (.ref c')),⟨_,rfl,_,rfl,d,CD,dd,_,rfl,ed5,DC.cl,DC.n,by show 1<1000;decide,rfl,rfl⟩,?_⟩
 rintro σ' H6 ⟨rfl,rfl⟩
 obtain⟨dx5,ec5⟩:=hc5.ins
 refine k c' a2 b2 _ (fun q o e n=>?_) nc na2 nb2 ⟨dd,A6⟩ ⟨⟨dx5,by rw[C9 (Ne.symm ndc)];exact ec5⟩,?_,?_⟩
 . rw[C9 n]
   exact x5 _ _ (keep _ _ e) (D5 e nc)
 . rw[C9 (A1w hc5.ha ed5 (by intro z;cases z))]
   exact hc5.ha
 rw[C9 (A1w hc5.hb ed5 (by intro z;cases z))]
 exact hc5.hb
noncomputable abbrev A7u:Stmt:=(top 127)
noncomputable abbrev B5q:Stmt:=(top 132)
noncomputable def J3x (z:Str):Prop:=z.length<=400/\(wdZ z).length<=400/\∀q,plR (bare (wdZ z))=some q -> -200<=q.2/\q.2<=200
noncomputable def A6d (z:Str):Bool:=decide (z.length<=400)&&(decide ((wdZ z).length<=400)&&(match plR (bare (wdZ z)) with|none=>true|some q=>decide (-200<=q.2)&&decide (q.2<=200)))
theorem D3a{z:Str}(h:A6d z=true):J3x z:=by
 unfold A6d at h
 simp only[Bool.and_eq_true,decide_eq_true_eq] at h
 refine⟨h.1,h.2.1,fun q e=>?_⟩
 have:=h.2.2
 rw[e] at this
 simpa using this
theorem G3u{z:Str}{x:Nm}(h:rdO z=some x):x.Ok:=by
 have so:=C8r (wdZ z)
 have e60:(0:Int)<=10^60-1:=by decide
 unfold rdO at h
 split at h
 . obtain rfl:=Option.some.inj h
   exact⟨by show(0:Int)<=0;decide,by show(0:Int)<=1;decide,by show(0:Int)<=0;decide,e60,by show(-200:Int)<=0;decide,by show(0:Int)<=200;decide⟩
 split at h
 . obtain rfl:=Option.some.inj h
   exact⟨so.1,so.2,by show(0:Int)<=0;decide,e60,by show(-200:Int)<=0;decide,by show(0:Int)<=200;decide⟩
 obtain⟨q,hq,rfl⟩:=Option.map_eq_some_iff.mp h
 unfold plO at hq
 obtain⟨q',h1,h2⟩:=Option.bind_eq_some_iff.mp hq
 split at h2
 . rename_i hr
   obtain rfl:=Option.some.inj h2
   unfold plR at h1
   obtain⟨f,hf,h3⟩:=Option.bind_eq_some_iff.mp h1
   obtain⟨s,_,rfl⟩:=Option.map_eq_some_iff.mp h3
   have fr:=B5c hf
   exact⟨so.1,so.2,fr.1,fr.2,hr.1,hr.2⟩
 cases h2
inductive Ref where
 |noline|notext|nocount|badctx
noncomputable def G1m (C2 C3 C4:Addr) (H:Hp) (Q:VK) (E:XK):Ref ->Prop
 | .noline=>∀H',B5 H H' ->Q (.str "no line") H'
 | .notext=>∀H',B5 H H' ->E (.ref C2) none H'
 | .nocount=>∀H',B5 H H' ->E (.ref C4) none H'
 | .badctx=>∀H',B5 H H' ->E (.ref C3) none H'
noncomputable def G2f (nm:Str) (ws:List Str):Option Ref:=if ws.length≠2 then some .noline else if A6d (ws.getD 0 "")=true then(match rdO (ws.getD 0 "") with
   |none=>some .notext
   | some _=>match A2m (ws.getD 1 "") with
     |none=>some .nocount
     |some n=>if(if nm="power" then n< -20\/20<n else n< -100\/100<n) then some .nocount else none) else none
noncomputable def B4b (C2 C3 C4:Addr):Sp:=fun vs H Q E=>∃c nm l ws r,vs=[.ref c,.str nm,.ref l]/\H l=some (.lst (ws.map V.str))/\ws.length<=100/\(ws.map (·.length)).sum+ws.length<=900/\G2f nm ws=some r/\G1m C2 C3 C4 H Q E r
theorem scCounted:B0 ["context","name","rest","number","count"] Q13 (A4 A7u):=scK
theorem C2n{f f1 f2 f3 f4 f5 CN CB C2 C3 C4:Addr}(D:Def K mg "counted" Q13 A7u f fd)(dC:Def K mg "read" ["text"] B9t f1 fd1)(dE:sI P w K mg base 5 f1 fd1 ["text"] (C2j K CN C2))(dF:Def K mg "count_read" ["word"] A2b f2 fd2)(dG:sI P w K mg base 2 f2 fd2 ["word"] (A4m C4))(dH:Def K mg "to_power" Q10 B0p f3 fd3)(dJ:sI P w K mg base 3 f3 fd3 Q10 (A5g CN C4 20))(dL:Def K mg "scaled" Q10 A7m f4 fd4)(dM:sI P w K mg base 3 f4 fd4 Q10 (A5g CN C4 100))(dA:Def K mg "written" ["number"] A4u f5 fd5)(dB:sI P w K mg base 3 f5 fd5 ["number"] (A8p K CN CB))(O:Own mg):sI P w K mg base 6 f fd Q13 (B4b C2 C3 C4):=by
 refine D.F.okE scCounted (fun vs H Q E h=>?_) (fun X cdv A outer s H vs Q E hX hr hx h=>?_)
 . obtain⟨c,nm,l,ws,r,rfl,_⟩:=h
   rfl
 subst hX
 obtain⟨c,nm,l,ws,r,rfl,el,lw,sw,ef,k⟩:=h
 refine⟨_,(A2 (B7 (D7 (B9 B0a (U2 Y3 (by rfl) O.len_ PySem.boot_len (A0 (pv 2) A1)) A7 (C0 _)) (A5 (A8 A3)) C6)) (A2 (B7 (D3 (i:=3) scCounted.nd rfl (Or.inl rfl) (C8 dC dE hr hx (A0 (V3 V9 (pv 2) A7 (fun _ _=>rfl)) A1)))) (A2 (B7 (D3 (i:=4) scCounted.nd rfl (Or.inl rfl) (C8 dF dG hr hx (A0 (V3 V9 (pv 2) A7 (fun _ _=>rfl)) A1)))) (A2 (B7 (D7 (B9 D9 (pv 1) A3 (C0 _)) (A5 (A8 (C8 dA dB hr hx (A0 (C8 dH dJ hr hx (A0 (pv 0) (A0 (pv 3) (A0 (pv 4) A1)))) A1)))) C6)) (A5 (A8 (C8 dA dB hr hx (A0 (C8 dL dM hr hx (A0 (pv 0) (A0 (pv 3) (A0 (pv 4) A1)))) A1)))))))),?_⟩
 have ML:(ws.map V.str).length=ws.length:=List.length_map _
 unfold G2f at ef
 by_cases h2:ws.length≠2
 . rw[if_pos h2] at ef
   obtain rfl:=Option.some.inj ef
   refine⟨fun _ _=>False,⟨_,rfl,l,_,rfl,.inl (SqL.of el),rfl,_,rfl,?_⟩,fun _ _ h=>h.elim⟩
   rw[decide_eq_false (fun q=>h2 (by have:=V.int.inj q;omega))]
   exact Y1 (k H (B5.refl _))
 rw[if_neg h2] at ef
 have h2:ws.length=2:=by omega
 obtain⟨z,y,rfl⟩:∃z y,ws=[z,y]:=by
   match ws,h2 with
   | [z,y],_=>exact⟨z,y,rfl⟩
 have ly:=B0r (i:=1) (ws:=[z,y]) rfl
 refine⟨fun σ' H'=>H'=H/\σ'=[sr c,sR nm,sr l,none,none],⟨_,rfl,l,_,rfl,.inl (SqL.of el),rfl,_,rfl,V1 ⟨rfl,rfl⟩⟩,?_⟩
 rintro σ' H1 ⟨rfl,rfl⟩
 have ef:(if A6d z=true then(match rdO z with|none=>some Ref.notext|some _=>match A2m y with|none=>some .nocount|some n=>if(if nm="power" then n< -20\/20<n else n< -100\/100<n) then some .nocount else none) else none)=some r:=ef
 by_cases hf:A6d z=true
 . rw[if_pos hf] at ef
   obtain⟨f1,f2,f3⟩:=D3a hf
   cases hr0:rdO z with
   | none=>
     rw[hr0] at ef
     obtain rfl:=Option.some.inj ef
     exact⟨fun _ _=>False,⟨_,rfl,l,_,_,_,rfl,rfl,SqL.of el,G5 (j:=0) rfl,_,rfl,.inl ⟨z,rfl,f1,f2,f3,by rw[hr0];exact fun H' s'=>k H' s'⟩⟩,fun _ _ h=>h.elim⟩
   | some x=>
     rw[hr0] at ef
     refine⟨fun σ' H'=>∃n,B5 H1 H'/\Y0 CN H' n x/\σ'=[sr c,sR nm,sr l,sr n,none],⟨_,rfl,l,_,_,_,rfl,rfl,SqL.of el,G5 (j:=0) rfl,_,rfl,.inl ⟨z,rfl,f1,f2,f3,by rw[hr0];exact fun n H' nn s' num=>⟨n,s',num,rfl⟩⟩⟩,?_⟩
     rintro σ' H2 ⟨n,s2,num,rfl⟩
     have el2:=s2 _ _ el
     cases hc:A2m y with
     | none=>
       rw[hc] at ef
       obtain rfl:=Option.some.inj ef
       exact⟨fun _ _=>False,⟨_,rfl,l,_,_,_,rfl,rfl,SqL.of el2,G5 (j:=1) rfl,y,rfl,by omega,.inr ⟨hc,k _ s2⟩⟩,fun _ _ h=>h.elim⟩
     | some m=>
       rw[hc] at ef
       refine⟨fun σ' H'=>H'=H2/\σ'=[sr c,sR nm,sr l,sr n,si m],⟨_,rfl,l,_,_,_,rfl,rfl,SqL.of el2,G5 (j:=1) rfl,y,rfl,by omega,.inl ⟨m,hc,rfl,rfl⟩⟩,?_⟩
       rintro σ' H3 ⟨rfl,rfl⟩
       have ef:(if(if nm="power" then m< -20\/20<m else m< -100\/100<m) then some Ref.nocount else none)=some r:=ef
       have hm:(if nm="power" then m< -20\/20<m else m< -100\/100<m)/\r= .nocount:=by
         by_cases q:(if nm="power" then m< -20\/20<m else m< -100\/100<m)
         . rw[if_pos q] at ef
           exact⟨q,(Option.some.inj ef).symm⟩
         . rw[if_neg q] at ef
           cases ef
       obtain⟨hm,rfl⟩:=hm
       by_cases hp:nm="power"
       . rw[if_pos hp] at hm
         exact⟨fun _ _=>False,⟨_,rfl,rfl,_,rfl,A0y (congrArg V.str hp) ⟨_,rfl,_,rfl,_,rfl,c,n,x,m,rfl,num,hm,k _ s2⟩⟩,fun _ _ h=>h.elim⟩
       . rw[if_neg hp] at hm
         refine⟨fun σ' H'=>H'=H3/\σ'=[sr c,sR nm,sr l,sr n,si m],⟨_,rfl,rfl,_,rfl,A0s (fun q=>hp (V.str.inj q)) ⟨rfl,rfl⟩⟩,?_⟩
         rintro σ' H4 ⟨rfl,rfl⟩
         exact⟨_,rfl,_,rfl,_,rfl,c,n,x,m,rfl,num,hm,k _ s2⟩
 rw[if_neg hf] at ef
 cases ef
noncomputable instance (a b c:Int):Decidable (A0x a b c):=by unfold A0x;exact inferInstance
noncomputable def opR (v:Cv) (nm:Str) (x1 x2:Nm):Option (Nm×List Str):=
 if nm="plus" then(if x1.k= .plain/\x2.k= .plain then some (D2p v x1 x2) else none)
 else if nm="over" then(if(A1m x1 x2 ->x1.f≠0 ->A0x x1.f x2.f (x1.p-x2.p-(-1))) then some (C5a v x1 x2 (-1)) else none) else none
noncomputable def C4j (CN CC CT:Addr):Sp:=fun vs H Q E=>∃c v a b xs ys nm n1 n2 x1 x2 res,vs=[.ref c,.str nm,.ref n1,.ref n2]/\V4 CC H c v a b xs ys/\v.Ok/\Z2 xs=xs/\Two CN H n1 n2 x1 x2/\x1.Ok/\x2.Ok/\opR v nm x1 x2=some res/\A3a CN CC CT H c v b xs ys res Q E
theorem G2g:B0 Q29 Q29 (A4 B5q):=scK
theorem C9y{f f1 f2 CN CC CT:Addr}(D:Def K mg "of_two" Q29 B5q f fd)(dC:Def K mg "plus" Q4 C5k f1 fd1){k1 k2:Nat}(dA:sI P w K mg base k1 f1 fd1 Q4 (C8x CN CC CT))(dE:Def K mg "over" Q4 C4t f2 fd2)(dB:sI P w K mg base k2 f2 fd2 Q4 (D0u CN CC CT))(h1:k1<=12)(h2:k2<=12):sI P w K mg base 13 f fd Q29 (C4j CN CC CT):=by
 have dA:=dA.mono h1
 have dB:=dB.mono h2
 refine D.F.okE G2g (fun vs H Q E h=>?_) (fun X cdv A outer s H vs Q E hX hr hx h=>?_)
 . obtain⟨c,v,a,b,xs,ys,nm,n1,n2,x1,x2,res,rfl,_⟩:=h
   rfl
 subst hX
 obtain⟨c,v,a,b,xs,ys,nm,n1,n2,x1,x2,res,rfl,hc,ok,ox,tw,o1,o2,er,k⟩:=h
 refine⟨_,(A2 (D7 (B9 D9 (pv 1) A3 (C0 _)) (A5 (A8 (C8 dC dA hr hx (A0 (pv 0) (A0 (pv 2) (A0 (pv 3) A1)))))) C6) (A2 (D7 (B9 D9 (pv 1) A3 (C0 _)) (A5 (A8 A1d)) C6) (A2 (D7 (B9 D9 (pv 1) A3 (C0 _)) (A5 (A8 A1d)) C6) (A2 (D7 (B9 D9 (pv 1) A3 (C0 _)) (A5 (A8 (C8 dE dB hr hx (A0 (pv 0) (A0 (pv 2) (A0 (pv 3) A1)))))) C6) (A2 (D7 (B9 D9 (pv 1) A3 (C0 _)) (A5 (A8 A1d)) C6) (A2 (D7 (B9 D9 (pv 1) A3 (C0 _)) (A5 (A8 A1d)) C6) (A2 (D7 (B9 D9 (pv 1) A3 (C0 _)) (A5 (A8 A1d)) C6) (A2 (D7 (B9 D9 (pv 1) A3 (C0 _)) (A5 (A8 A1d)) C6) (A5 (A8 A1d)))))))))),?_⟩
 have lx:=B1e ox
 have lx9:xs.length<=900:=by omega
 unfold opR at er
 by_cases hp:nm="plus"
 . rw[if_pos hp] at er
   have er:(x1.k= .plain/\x2.k= .plain)/\res=D2p v x1 x2:=by
     split at er
     . rename_i q
       exact⟨q,(Option.some.inj er).symm⟩
     . cases er
   obtain⟨⟨p1,p2⟩,rfl⟩:=er
   exact⟨_,rfl,rfl,_,rfl,A0y (congrArg V.str hp) ⟨_,rfl,_,rfl,_,rfl,c,v,a,b,xs,ys,n1,n2,x1,x2,rfl,hc,ok,lx9,ox,tw,p1,p2,o1,o2,k⟩⟩
 rw[if_neg hp] at er
 by_cases ho:nm="over"
 . rw[if_pos ho] at er
   have er:(A1m x1 x2 ->x1.f≠0 ->A0x x1.f x2.f (x1.p-x2.p-(-1)))/\res=C5a v x1 x2 (-1):=by
     split at er
     . rename_i q
       exact⟨q,(Option.some.inj er).symm⟩
     . cases er
   obtain⟨hl,rfl⟩:=er
   have no:∀{t:Str},t≠"over" ->¬V.str nm=V.str t:=fun ht q=>ht ((V.str.inj q).symm.trans ho)
   exact⟨_,rfl,rfl,_,rfl,A0s (no (by decide+kernel)) ⟨_,rfl,rfl,_,rfl,A0s (no (by decide+kernel)) ⟨_,rfl,rfl,_,rfl,A0s (no (by decide+kernel)) ⟨_,rfl,rfl,_,rfl,A0y (congrArg V.str ho) ⟨_,rfl,_,rfl,_,rfl,c,v,a,b,xs,ys,n1,n2,x1,x2, -1,rfl,hc,ok,lx9,ox,tw,o1,o2,hl,k⟩⟩⟩⟩⟩
 rw[if_neg ho] at er
 cases er
noncomputable abbrev C5r:Stmt:=(top 129)
noncomputable def NUM:List (Str×Int):=[("plus",2),("minus",2),("times",2),("fused",3),("over",2),("whole over",2),("rest",2),("root",1),("same power",2),("to whole",1),("trimmed",1),("next up",1),("next down",1),("lesser",2),("greater",2),("compare",2)]
inductive G8v where
 |ref (r:Ref)
 |op (nm:Str) (x1 x2:Nm)
noncomputable def A0f (ws:List Str):Nat:=if(NUM.any fun p=>p.1=ws.getD 0 "")=true then 1 else 2
noncomputable def A0e (ws:List Str):Str:=Txt.join " " (ws.take (A0f ws))
noncomputable def C3b (ws:List Str):Option G8v:=
 if¬C7f NUM (A0e ws)= .int ((ws.length:Int)- (A0f ws:Int)) then some (.ref .noline)
 else if(ws.drop (A0f ws)).all A6d=true then(if(ws.drop (A0f ws)).all (fun z=>(rdO z).isSome)=true then(match(ws.drop (A0f ws)).map rdO with
     | [some x1,some x2]=>if A0e ws="plus"\/A0e ws="over" then some (.op (A0e ws) x1 x2) else none
     |_=>none) else some (.ref .notext)) else none
theorem G3b(xs:List V)(k:Nat):A4b xs none (some (k:Int))=xs.take k:=by
 unfold A4b
 rw[HT.sIx_none,HT.sIx_nat,List.drop_zero,Nat.sub_zero]
 by_cases h:k<=xs.length
 . rw[Nat.min_eq_left h]
 rw[Nat.min_eq_right (by omega),List.take_length,List.take_of_length_le (by omega)]
theorem B4h(xs:List V)(k:Nat):A4b xs (some (k:Int)) none=xs.drop k:=by
 unfold A4b
 rw[HT.sIx_none,HT.sIx_nat]
 by_cases h:k<=xs.length
 . rw[Nat.min_eq_left h]
   exact List.take_of_length_le (by rw[List.length_drop];omega)
 rw[Nat.min_eq_right (by omega),List.drop_length,List.drop_of_length_le (by omega),List.take_nil]
theorem D1n(ws:List Str)(k:Nat):((ws.take k).map (·.length)).sum+(ws.take k).length<=(ws.map (·.length)).sum+ws.length:=by
 have e:(ws.map (·.length)).sum=((ws.take k).map (·.length)).sum+((ws.drop k).map (·.length)).sum:=by
   rw[<-List.sum_append, <-List.map_append,List.take_append_drop]
 have l:(ws.take k).length<=ws.length:=by rw[List.length_take];omega
 omega
noncomputable def J6y (CN CC C2 C3 C4 CT:Addr) (H:Hp) (c:Addr) (v:Cv) (b:Addr) (xs ys:List Str) (Q:VK) (E:XK):G8v ->Prop
 | .ref r=>G1m C2 C3 C4 H Q E r
 | .op nm x1 x2=>∃res,opR v nm x1 x2=some res/\(hit ys res.2=none ->res.1.Ok)/\
     (hit ys res.2=none ->∀a' H',B6b CC H c a' ->Exc c H H' ->V4 CC H' c v a' b (Z2 (xs++res.2)) ys ->Q (.str (S (wrL res.1))) H')/\
     (∀z,hit ys res.2=some z ->∀a' d H',B6b CC H c a' ->Exc c H H' ->V4 CC H' c v a' b (Z2 (xs++res.2)) ys ->H' d=some (.xd [("signal",.str z)]) ->E (.ref CT) (some d) H')
noncomputable def D2m (CN CC C2 C3 C4 CT:Addr):Sp:=fun vs H Q E=>∃c v a b xs ys l ws r,vs=[.ref c,.ref l]/\V4 CC H c v a b xs ys/\v.Ok/\Z2 xs=xs/\H l=some (.lst (ws.map V.str))/\ws≠ []/\ws.length<=100/\(ws.map (·.length)).sum+ws.length<=900/\C3b ws=some r/\J6y CN CC C2 C3 C4 CT H c v b xs ys Q E r
theorem scReck:B0 ["context","words","size","name","numbers"] Q39 (A4 C5r):=scK
theorem G1h {f f1 f2 f3 CN CC CB C2 C3 C4 CT aN:Addr} (D:Def K mg "reckoned" Q39 C5r f fd) (dC:Def K mg "read" ["text"] B9t f1 fd1) (dE:sI P w K mg base 5 f1 fd1 ["text"] (C2j K CN C2)) (dF:Def K mg "of_two" Q29 B5q f2 fd2) (dG:sI P w K mg base 13 f2 fd2 Q29 (C4j CN CC CT)) (dA:Def K mg "written" ["number"] A4u f3 fd3) (dB:sI P w K mg base 3 f3 fd3 ["number"] (A8p K CN CB)) (GD:C0b P w K aN NUM) (NG:mg "NUMBERS_OF"=some (.ref aN)) (O:Own mg):sI P w K mg base 14 f fd Q39 (D2m CN CC C2 C3 C4 CT):=by
 refine D.F.okE scReck (fun vs H Q E h=>?_) (fun X cdv A outer s H vs Q E hX hr hx h=>?_)
 . obtain⟨c,v,a,b,xs,ys,l,ws,r,rfl,_⟩:=h
   rfl
 subst hX
 obtain⟨c,v,a,b,xs,ys,l,ws,r,rfl,hc,ok,ox,el,hne,lw,sw,er,k⟩:=h
 refine⟨_,(A2 (B7 (D3 (i:=2) scReck.nd rfl (Or.inl rfl) (U1 (G5g (G5h GD (V3 V9 (pv 1) A7 (fun _ _=>rfl)) (C9v NG))) A7 A7))) (A2 (B7 (D3 (i:=3) scReck.nd rfl (Or.inl rfl) (A1q PySem.F.plainAttrs_str PySem.F.slot_str_join PySem.F.type_str_join B6h A3 (A0 (A0m A8b (pv 1) A1g (A1e (pv 2))) A1)))) (A2 (B7 (D7 (B9 B0a (G0r GD (C9v NG) (A0 (pv 3) A1)) (D4 A0k (U2 Y3 (by rfl) O.len_ PySem.boot_len (A0 (pv 1) A1)) (pv 2)) (C0 _)) (A5 (A8 A3)) C6)) (A2 (B7 (C7n (i:=4) (N:=["word"]) (F:=[]) (js:=[]) (G0.of0 ⟨rfl,by decide+kernel,by decide+kernel,by decide+kernel,by decide+kernel⟩ (by rfl)) (.inl hr.hd) rfl ⟨rfl,rfl,rfl⟩ hx (A2g (A0m A8b (pv 1) (A1e (pv 2)) A1g)) rfl (fun C s₀ H₀ ex pn h=>A1c (i:=0) (by decide+kernel:(["word"]:List Str).Nodup) rfl (Or.inl rfl)) (fun C s₀ H₀ ex pn h=>D1j (fun _ _ z=>z) dC dE hr (A0 (pv 0) A1)) scReck.nd rfl (Or.inl rfl))) (A2 (B7 (D7 (B9 D9 (pv 3) A3 (C0 _)) (A5 (A8 A1d)) C6)) (A2 (B7 (D7 (B9 D9 (pv 3) A3 (C0 _)) (A5 (A8 (C8 dA dB hr hx (A0 A1d A1)))) C6)) (A2 (B7 (D7 (B9 D9 (U2 Y3 (by rfl) O.len_ PySem.boot_len (A0 (pv 4) A1)) A7 (C0 _)) (A5 (A8 (C8 dA dB hr hx (A0 A1d A1)))) C6)) (A5 (A8 (C8 dA dB hr hx (A0 (C8 dF dG hr hx (A0 (pv 0) (A0 (pv 3) (A0 (V3 V9 (pv 4) A7 (fun _ _=>rfl)) (A0 (V3 V9 (pv 4) A7 (fun _ _=>rfl)) A1))))) A1))))))))))),?_⟩
 obtain⟨w0,wr,ew⟩:∃w0 wr,ws=w0::wr:=by
   cases ws with
   |nil=>exact absurd rfl hne
   |cons w0 wr=>exact⟨w0,wr,rfl⟩
 have e0:ws.getD 0 ""=w0:=by rw[ew];rfl
 have at0:atI (ws.map V.str) 0=some (.str w0):=by rw[ew];exact G5 (j:=0) rfl
 refine⟨fun σ' H'=>H'=H/\σ'=[sr c,sr l,si (A0f ws:Int),none,none],?_,?_⟩
 . refine⟨_,rfl,l,_,_,_,rfl,rfl,SqL.of el,at0,w0,rfl,rfl,_,rfl,?_⟩
   unfold A0f
   rw[e0]
   cases NUM.any fun p=>p.1=w0 with
   |true=>exact Y1 ⟨rfl,rfl⟩
   |false=>exact V1 ⟨rfl,rfl⟩
 rintro σ' H1 ⟨rfl,rfl⟩
 have sz2:A0f ws=1\/A0f ws=2:=by unfold A0f;split<;>simp
 have ts:=D1n ws (A0f ws)
 refine⟨fun σ' H'=>B5 H1 H'/\σ'=[sr c,sr l,si (A0f ws:Int),sR (A0e ws),none],?_,?_⟩
 . refine⟨rfl,_,rfl,_,rfl,_,rfl,l,_,rfl,SqL.of el,fun p np=>?_⟩
   rw[G3b, <-List.map_take]
   exact⟨_,p,ws.take (A0f ws),rfl,rfl,SqL.of A6,B2y (by omega),B5.upd np,rfl⟩
 rintro σ' H2 ⟨s2,rfl⟩
 have el2:=s2 _ _ el
 have ML:(ws.map V.str).length=ws.length:=List.length_map _
 unfold C3b at er
 by_cases hg:C7f NUM (A0e ws)= .int ((ws.length:Int)- (A0f ws:Int))
 . rw [if_neg (fun q=>q hg)] at er
   refine⟨fun σ' H'=>H'=H2/\σ'=[sr c,sr l,si (A0f ws:Int),sR (A0e ws),none],?_,?_⟩
   . refine⟨rfl,_,rfl,A0e ws,rfl,_,rfl,l,_,rfl,.inl (SqL.of el2),_,rfl,_,_,rfl,rfl,?_⟩
     refine⟨by rw[hg];rfl,_,rfl,?_⟩
     rw[hg,ML,decide_eq_true rfl]
     exact V1 ⟨rfl,rfl⟩
   rintro σ' H3 ⟨rfl,rfl⟩
   generalize hrest:ws.drop (A0f ws)=rest at er
   have lr:rest.length<=100:=by rw[<-hrest,List.length_drop];omega
   by_cases hfit:rest.all A6d=true
   . rw[if_pos hfit] at er
     refine⟨fun σ' H'=>∃(D:Addr) (ns:List (Addr×Nm)),rest.map rdO=ns.map (fun p:Addr×Nm=>some p.2)/\B5 H3 H'/\H' D=some (.lst (ns.map fun p=>V.ref p.1))/\(∀p∈ns,Y0 CN H' p.1 p.2)/\σ'=[sr c,sr l,si (A0f ws:Int),sR (A0e ws),sr D],?_,?_⟩
     . refine ⟨_,rfl,_,rfl,_,rfl,l,_,rfl,SqL.of el2,fun p np=>?_⟩
       rw[B4h, <-List.map_drop,hrest]
       have u:=B5.upd (o:= .lst (rest.map V.str)) np
       have ep:upd H3 p (.lst (rest.map V.str)) p=some (.lst (rest.map V.str)):=A6
       refine⟨p,rfl,⟨_,SqL.of A6⟩,fun D nD=>?_⟩
       generalize upd H3 p (.lst (rest.map V.str))=G at u ep nD
       refine⟨rest.length,fun i ys' H5=>i<=rest.length/\∃ns:List (Addr×Nm),ys'=ns.map (fun p=>V.ref p.1)/\(rest.take i).map rdO=ns.map (fun p=>some p.2)/\(∀p∈ns,Y0 CN H5 p.1 p.2)/\H5 D=some (.lst ys')/\B5 G H5,⟨Nat.zero_le _,[],rfl,rfl,(fun p hp=>nomatch hp),A6,B5.upd nD⟩,?_⟩
       rintro i ys' H5 ⟨hi,ns,rfl,en,hn,eD,s5⟩
       refine⟨hi,eD,?_⟩
       have ln:ns.length=i:=by
         have:=congrArg List.length en
         rw[List.length_map,List.length_map,List.length_take] at this
         omega
       by_cases hlt:i<rest.length
       . refine .inr ⟨hlt,⟨_,V.str rest[i],SqL.of (s5 _ _ ep),by simp[hlt]⟩,fun x H6 yl=>?_⟩
         obtain⟨rfl,yl⟩:=yl
         have ex:x=V.str rest[i]:=by
           have:=yl _ (SqL.of (s5 _ _ ep))
           simp[hlt] at this
           exact this.symm
         subst ex
         obtain⟨f1,f2,f3⟩:=D3a (List.all_eq_true.mp hfit rest[i] (List.getElem_mem hlt))
         refine⟨_,rfl,_,rfl,.inl ⟨rest[i],rfl,f1,f2,f3,?_⟩⟩
         cases hr0:rdO rest[i] with
         | none=>
           have hno:¬rest.all (fun z=>(rdO z).isSome)=true:=fun q=>by
             have:=List.all_eq_true.mp q rest[i] (List.getElem_mem hlt)
             rw[hr0] at this
             cases this
           rw[if_neg hno] at er
           obtain rfl:=Option.some.inj er
           exact fun H' s'=>k H' (s2.trans (u.trans (s5.trans s')))
         | some x=>
           intro n H' nn s' num
           have eD':=s' _ _ eD
           have u2:∀q o,H' q=some o ->q≠D ->upd H' D (.lst ((ns.map fun p=>V.ref p.1)++ [.ref n])) q=some o:=fun q o e ne=>by rw[C9 ne];exact e
           have nmD:∀{q:Addr} {y:Nm},Y0 CN H' q y ->Y0 CN (upd H' D (.lst ((ns.map fun p=>V.ref p.1)++ [.ref n]))) q y:=fun{q y} h=>by
             obtain⟨dxq,e⟩:=h
             exact⟨dxq,u2 _ _ e (A1w e eD' (by intro z;cases z))⟩
           refine⟨eD',by rw[List.length_map,ln];exact Y6 (show i<=1000 by omega),hlt,ns++ [(n,x)],by rw[List.map_append];rfl,?_,?_,A6,fun q o e=>?_⟩
           . rw[List.take_succ_eq_append_getElem hlt,List.map_append,List.map_append,en]
             show _++ [rdO rest[i]]=_++ [some x]
             rw[hr0]
           . intro q hq
             rcases List.mem_append.mp hq with hq|hq
             . exact nmD ((hn q hq).same s')
             . rw[List.mem_singleton.mp hq]
               exact nmD num
           . exact u2 _ _ (s' _ _ (s5 _ _ e)) (D5 e nD)
       . have ei:i=rest.length:=by omega
         subst ei
         rw[List.take_length] at en
         exact .inl ⟨⟨_,SqL.of (s5 _ _ ep),by simp⟩,D,ns,en,u.trans s5,eD,hn,rfl⟩
     rintro σ' H4 ⟨D,ns,en,s4,eD,hn,rfl⟩
     have hall:rest.all (fun z=>(rdO z).isSome)=true:=by
       rw[List.all_eq_true]
       intro z hz
       have:rdO z∈rest.map rdO:=List.mem_map_of_mem hz
       rw[en] at this
       obtain⟨p,_,e⟩:=List.mem_map.mp this
       rw[<-e]
       rfl
     rw[if_pos hall,en] at er
     obtain⟨n1,x1,n2,x2,rfl⟩:∃n1 x1 n2 x2,ns=[(n1,x1),(n2,x2)]:=by
       match ns with
       | []=>cases er
       | [_]=>cases er
       | [(n1,x1),(n2,x2)]=>exact⟨n1,x1,n2,x2,rfl⟩
       |_::_::_::_=>cases er
     have er:(if A0e ws="plus"\/A0e ws="over" then some (G8v.op (A0e ws) x1 x2) else none)=some r:=er
     by_cases hnm:A0e ws="plus"\/A0e ws="over"
     . rw[if_pos hnm] at er
       obtain rfl:=Option.some.inj er
       obtain⟨res,eo,rok,k1,k2⟩:=k
       have B3n:Y0 CN H4 n1 x1:=hn (n1,x1) List.mem_cons_self
       have B7d:Y0 CN H4 n2 x2:=hn (n2,x2) (List.mem_cons_of_mem _ List.mem_cons_self)
       have o12:x1.Ok/\x2.Ok:=by
         obtain⟨z1,z2,er2⟩:∃z1 z2,rest=[z1,z2]:=by
           have l2:=congrArg List.length en
           rw[List.length_map] at l2
           have l2:rest.length=2:=l2
           match rest,l2 with
           | [z1,z2],_=>exact⟨z1,z2,rfl⟩
         rw[er2] at en
         injection en with e1 e2
         injection e2 with e2 _
         exact⟨G3u e1,G3u e2⟩
       have no:∀{t:Str},t≠"plus" ->t≠"over" ->¬V.str (A0e ws)=V.str t:=fun h1 h2 q=>hnm.elim (fun e=>h1 ((V.str.inj q).symm.trans e)) (fun e=>h2 ((V.str.inj q).symm.trans e))
       have S0: [sr c,sr l,si (A0f ws:Int),sR (A0e ws),sr D]=([sr c,sr l,si (A0f ws:Int),sR (A0e ws),sr D]:L2.St):=rfl
       refine⟨fun σ' H'=>H'=H4/\σ'=[sr c,sr l,si (A0f ws:Int),sR (A0e ws),sr D],⟨_,rfl,rfl,_,rfl,A0s (no (by decide+kernel) (by decide+kernel)) ⟨rfl,rfl⟩⟩,?_⟩
       rintro σ' H5 ⟨rfl,rfl⟩
       refine⟨fun σ' H'=>H'=H5/\σ'=[sr c,sr l,si (A0f ws:Int),sR (A0e ws),sr D],⟨_,rfl,rfl,_,rfl,A0s (no (by decide+kernel) (by decide+kernel)) ⟨rfl,rfl⟩⟩,?_⟩
       rintro σ' H6 ⟨rfl,rfl⟩
       refine⟨fun σ' H'=>H'=H6/\σ'=[sr c,sr l,si (A0f ws:Int),sR (A0e ws),sr D],⟨_,rfl,D,_,rfl,.inl (SqL.of eD),rfl,_,rfl,A0s (by intro q;cases q) ⟨rfl,rfl⟩⟩,?_⟩
       rintro σ' H7 ⟨rfl,rfl⟩
       have sH:=s2.trans s4
       refine⟨_,rfl,_,rfl,_,rfl,D,_,_,_,rfl,rfl,SqL.of eD,G5 (j:=0) rfl,_,rfl,D,_,_,_,rfl,rfl,SqL.of eD,G5 (j:=1) rfl,c,v,a,b,xs,ys,A0e ws,n1,n2,x1,x2,res,rfl,hc.same sH,ok,ox,⟨B3n,B7d⟩,o12.1,o12.2,eo,fun hh m a' H' nw x ct num=>?_,fun z hz a' d' H' nw x ct ed=>?_⟩
       . exact⟨_,rfl,.inl ⟨m,res.1,rfl,num,rok hh,k1 hh a' H' (C5u sH nw) ((Exc.of sH).trans x) ct⟩⟩
       . exact k2 z hz a' d' H' (C5u sH nw) ((Exc.of sH).trans x) ct ed
     . rw[if_neg hnm] at er
       cases er
   . rw[if_neg hfit] at er
     cases er
 rw[if_pos hg] at er
 obtain rfl:=Option.some.inj er
 refine⟨fun _ _=>False,⟨rfl,_,rfl,A0e ws,rfl,_,rfl,l,_,rfl,.inl (SqL.of el2),_,rfl,_,_,rfl,rfl,?_⟩,fun _ _ h=>h.elim⟩
 refine⟨by unfold C7f;split<;>rfl,_,rfl,?_⟩
 rw[ML,decide_eq_false hg]
 exact Y1 (k _ s2)
noncomputable abbrev A5a:Stmt:=(top 124)
noncomputable abbrev B0s:Stmt:=(top 123)
inductive B5e where
 |ans (t:Str) (v:Cv) (xs ys:List Str)
 |exc (r:Ref)
 |trap (z:Str) (xs:List Str)
noncomputable def D3e (v:Cv) (xs ys:List Str):Ref ->B5e
 | .noline=> .ans "no line" v xs ys
 |r=> .exc r
noncomputable def B1r (x:Nm):Bool:=decide (0<=x.s)&&(decide (x.s<=1)&&(decide (0<=x.f)&&(decide (x.f<=10^60-1)&&(decide (-200<=x.p)&&decide (x.p<=200)))))
theorem J2b{x:Nm}(h:B1r x=true):x.Ok:=by
 unfold B1r at h
 simp only[Bool.and_eq_true,decide_eq_true_eq] at h
 exact⟨h.1,h.2.1,h.2.2.1,h.2.2.2.1,h.2.2.2.2.1,h.2.2.2.2.2⟩
noncomputable def B7z (v:Cv) (xs ys ws:List Str):Option B5e:=
 if(Q43:List Str).contains (ws.getD 0 "")=true then(match A3k v (ws.getD 0 "") (ws.drop 1) with
   | .noline=>some (.ans "no line" v xs ys)
   | .nocount=>some (.exc .nocount)
   | .bad=>some (.exc .badctx)
   | .ok v'=>some (.ans "done" v' xs ys))
 else if(Q44:List Str).contains (ws.getD 0 "")=true then(match D4d (ws.getD 0 "") (ws.drop 1) xs ys with
   |some q=>some (.ans q.1 v q.2.1 q.2.2)
   |none=>some (.exc .badctx))
 else if(["power","scaled"]:List Str).contains (ws.getD 0 "")=true then(G2f (ws.getD 0 "") (ws.drop 1)).map (D3e v xs ys)
 else match C3b ws with
   |none=>none
   |some (.ref r)=>some (D3e v xs ys r)
   | some (.op nm x1 x2)=>match opR v nm x1 x2 with
     |none=>none
     | some res=>match hit ys res.2 with
       |none=>if B1r res.1=true then some (.ans (S (wrL res.1)) v (Z2 (xs++res.2)) ys) else none
       |some z=>some (.trap z (Z2 (xs++res.2)))
noncomputable def C8g (d c:Addr) (H H':Hp):Prop:=∀p o,H p=some o ->p≠d ->p≠c ->H' p=some o
noncomputable def G3q (CD CC C2 C3 C4 CT:Addr) (H:Hp) (d c a b:Addr) (v:Cv) (ys:List Str) (Q:VK) (E:XK):B5e ->Prop
 | .ans t v' xs' ys'=>∀c' a' b' H',C8g d c H H' ->A1p CD H' d c' ->V4 CC H' c' v' a' b' xs' ys' ->NwL H a b a' b' ->(c'=c\/H c'=none) ->Q (.str t) H'
 | .exc r=>G1m C2 C3 C4 H (fun _ _=>False) E r
 | .trap z xs'=>∀a' d' H',C8g d c H H' ->A1p CD H' d c ->V4 CC H' c v a' b xs' ys ->NwL H a b a' b ->H' d'=some (.xd [("signal",.str z)]) ->E (.ref CT) (some d') H'
theorem A9m{d c:Addr}{H H':Hp}(s:B5 H H'):C8g d c H H':=fun p o e _ _=>s p o e
theorem C0p{d c:Addr}{H H':Hp}(x:Exc c H H'):C8g d c H H':=fun p o e _ n=>x p o e n
theorem G7m{d c:Addr}{H H':Hp}(x:Exc d H H'):C8g d c H H':=fun p o e n _=>x p o e n
theorem J4b{CD CC:Addr}{H:Hp}{d c:Addr}{v:Cv}{a b:Addr}{xs ys:List Str}(hd:A1p CD H d c)(hc:V4 CC H c v a b xs ys):d≠c:=fun q=>by
 obtain⟨dd,ed⟩:=hd
 obtain⟨dx,ec⟩:=hc.ins
 rw[q,ec] at ed
 injection ed with ed
 injection ed with _ _ ed
 have:=congrArg List.length ed
 rw[A7v] at this
 cases this
theorem B7w{CD CC C2 C3 C4 CT:Addr}{H:Hp}{d c a b:Addr}{v:Cv}{xs ys:List Str}{Q:VK}{E:XK}{r:Ref}(hd:A1p CD H d c)(hc:V4 CC H c v a b xs ys)(k:G3q CD CC C2 C3 C4 CT H d c a b v ys Q E (D3e v xs ys r)):G1m C2 C3 C4 H Q E r:=by
 cases r with
 |noline=>exact fun H' s'=>k c a b H' (A9m s') (by obtain⟨dd,ed⟩:=hd;exact⟨dd,s' _ _ ed⟩) (hc.same s') (NwL.refl _ _ _) (.inl rfl)
 |notext=>exact k
 |nocount=>exact k
 |badctx=>exact k
theorem G0e{ws:List Str}(h:OkL ws):OkL (ws.drop 1):=⟨by rw[List.length_drop];have:=h.1;omega,fun z hz=>h.2 z (List.mem_of_mem_drop hz)⟩
theorem D0y(ws:List Str):((ws.drop 1).map (·.length)).sum+(ws.drop 1).length<=(ws.map (·.length)).sum+ws.length:=by
 have e:(ws.map (·.length)).sum=((ws.take 1).map (·.length)).sum+((ws.drop 1).map (·.length)).sum:=by
   rw[<-List.sum_append, <-List.map_append,List.take_append_drop]
 have l:(ws.drop 1).length<=ws.length:=by rw[List.length_drop];omega
 omega
structure Fit(ws:List Str):Prop where
 ne:ws≠ []
 ok:OkL ws
 su:(ws.map (·.length)).sum+ws.length<=900
noncomputable def D1w (CD CC C2 C3 C4 CT:Addr):Sp:=fun vs H Q E=>∃d c v a b xs ys l ws r,vs=[.ref d,.ref l]/\A1p CD H d c/\V4 CC H c v a b xs ys/\v.Ok/\Z2 xs=xs/\Z2 ys=ys/\H l=some (.lst (ws.map V.str))/\Fit ws/\B7z v xs ys ws=some r/\G3q CD CC C2 C3 C4 CT H d c a b v ys Q E r
theorem C2p:B0 Q11 Q11 (A4 A5a):=scK
theorem D9z{f f1 f2 f3 f4 CN CD CC C2 C3 C4 CT:Addr}(D:Def K mg "line_done" Q11 A5a f fd)(dA:Def K mg "context_changed" Q38 B6e f1 fd1)(dB:sI P w K mg base 5 f1 fd1 Q38 (C3z CD CC C3 C4))(dC:Def K mg "signals_handled" Q13 C4z f2 fd2)(dE:sI P w K mg base 3 f2 fd2 Q13 (D3r CC C3))(dF:Def K mg "counted" Q13 A7u f3 fd3)(dG:sI P w K mg base 6 f3 fd3 Q13 (B4b C2 C3 C4))(dH:Def K mg "reckoned" Q39 C5r f4 fd4)(dJ:sI P w K mg base 14 f4 fd4 Q39 (D2m CN CC C2 C3 C4 CT))(DC:B9z K mg CD):sI P w K mg base 15 f fd Q11 (D1w CD CC C2 C3 C4 CT):=by
 refine D.F.okE C2p (fun vs H Q E h=>?_) (fun X cdv A outer s H vs Q E hX hr hx h=>?_)
 . obtain⟨d,c,v,a,b,xs,ys,l,ws,r,rfl,_⟩:=h
   rfl
 subst hX
 obtain⟨d,c,v,a,b,xs,ys,l,ws,r,rfl,hd,hc,ok,ox,oy,el,ft,er,k⟩:=h
 obtain⟨hne,okw,sw⟩:=ft
 have lw:=okw.1
 refine⟨_,(A2 (B7 (D7 (B9 A0t (V3 V9 (pv 1) A7 (fun _ _=>rfl)) (G6 (A0 A3 (A0 A3 (A0 A3 A1)))) (by rfl)) (A5 (A8 (C8 dA dB hr hx (A0 (pv 0) (A0 (V3 V9 (pv 1) A7 (fun _ _=>rfl)) (A0 (A0m A8b (pv 1) (A1e A7) A1g) A1)))))) C6)) (A2 (B7 (D7 (B9 A0t (V3 V9 (pv 1) A7 (fun _ _=>rfl)) (G6 (A0 A3 (A0 A3 (A0 A3 A1)))) (by rfl)) (A5 (A8 (C8 dC dE hr hx (A0 (D6 (pv 0) rfl) (A0 (V3 V9 (pv 1) A7 (fun _ _=>rfl)) (A0 (A0m A8b (pv 1) (A1e A7) A1g) A1)))))) C6)) (A2 (B7 (D7 (B9 A0t (V3 V9 (pv 1) A7 (fun _ _=>rfl)) (G6 (A0 A3 (A0 A3 A1))) (by rfl)) (A5 (A8 (C8 dF dG hr hx (A0 (D6 (pv 0) rfl) (A0 (V3 V9 (pv 1) A7 (fun _ _=>rfl)) (A0 (A0m A8b (pv 1) (A1e A7) A1g) A1)))))) C6)) (A5 (A8 (C8 dH dJ hr hx (A0 (D6 (pv 0) rfl) (A0 (pv 1) A1)))))))),?_⟩
 have z3:3<=sizeLine:=B8 (by decide)
 have z2:2<=sizeLine:=B8 (by decide)
 obtain⟨dd,ed⟩:=id hd
 have ndc:=J4b hd hc
 obtain⟨w0,wr,ew⟩:∃w0 wr,ws=w0::wr:=by
   cases ws with
   |nil=>exact absurd rfl hne
   |cons w0 wr=>exact⟨w0,wr,rfl⟩
 have e0:ws.getD 0 ""=w0:=by rw[ew];rfl
 have at0:atI (ws.map V.str) 0=some (.str w0):=by rw[ew];exact G5 (j:=0) rfl
 have cut1:A4b (ws.map V.str) (some 1) none=(ws.drop 1).map V.str:=by
   have:=B4h (ws.map V.str) 1
   rw[<-List.map_drop] at this
   exact this
 have ds:=D0y ws
 have dl:(ws.drop 1).length<=100:=by rw[List.length_drop];omega
 have in3:∀(x y z:Str),inV (.str w0) [.str x,.str y,.str z]=([x,y,z]:List Str).contains w0:=fun x y z=>A1f w0 [x,y,z]
 have in2:∀(x y:Str),inV (.str w0) [.str x,.str y]=([x,y]:List Str).contains w0:=fun x y=>A1f w0 [x,y]
 unfold B7z at er
 rw[e0] at er
 refine⟨fun σ' H'=>B5 H H'/\(Q43:List Str).contains w0=false/\σ'=[sr d,sr l],?_,?_⟩
 . refine⟨_,rfl,l,_,_,_,rfl,rfl,SqL.of el,at0,z3,fun p np=>?_⟩
   have u:=B5.upd (o:= .tup [.str "room",.str "way",.str "bounds"]) np
   refine⟨p,_,rfl,.inr (SqT.of A6),rfl,rfl,_,rfl,?_⟩
   rw[if_neg Bool.false_ne_true,in3]
   generalize upd H p (.tup [.str "room",.str "way",.str "bounds"])=G at u
   cases hin:(Q43:List Str).contains w0 with
   |false=>exact V1 ⟨u,rfl,rfl⟩
   | true=>
     rw[hin,if_pos rfl] at er
     refine Y1 ⟨_,rfl,_,rfl,l,_,_,_,rfl,rfl,SqL.of (u _ _ el),at0,_,rfl,_,rfl,l,_,rfl,SqL.of (u _ _ el),fun q nq=>?_⟩
     have u2:=u.trans (B5.upd (o:= .lst (A4b (ws.map V.str) (some 1) none)) nq)
     have eq:upd G q (.lst (A4b (ws.map V.str) (some 1) none)) q=some (.lst ((ws.drop 1).map V.str)):=by rw[A6,cut1]
     generalize upd G q (.lst (A4b (ws.map V.str) (some 1) none))=G2 at u2 eq
     refine⟨d,c,v,a,b,xs,ys,w0,q,ws.drop 1,rfl,⟨dd,u2 _ _ ed⟩,hc.same u2,ox,oy,eq,dl,by omega,?_⟩
     revert er
     cases A3k v w0 (ws.drop 1) with
     | noline=>
       intro er
       obtain rfl:=Option.some.inj er
       exact fun H' s'=>k c a b H' (A9m (u2.trans s')) ⟨dd,(u2.trans s') _ _ ed⟩ (hc.same (u2.trans s')) (NwL.refl _ _ _) (.inl rfl)
     | nocount=>
       intro er
       obtain rfl:=Option.some.inj er
       exact fun H' s'=>k H' (u2.trans s')
     | bad=>
       intro er
       obtain rfl:=Option.some.inj er
       exact fun H' s'=>k H' (u2.trans s')
     | ok v'=>
       intro er
       obtain rfl:=Option.some.inj er
       exact fun c' a' b' H' x nc na nb hd' ct=>k c' a' b' H' (G7m ((Exc.of u2).trans x)) hd' ct (fun z hz _ _=>⟨C4y hz (u2.free na),C4y hz (u2.free nb)⟩) (.inr (u2.free nc))
 rintro σ' H1 ⟨s1,hn1,rfl⟩
 rw[hn1,if_neg Bool.false_ne_true] at er
 have el1:=s1 _ _ el
 have ed1:=s1 _ _ ed
 refine⟨fun σ' H'=>B5 H H'/\(Q44:List Str).contains w0=false/\σ'=[sr d,sr l],?_,?_⟩
 . refine⟨_,rfl,l,_,_,_,rfl,rfl,SqL.of el1,at0,z3,fun p np=>?_⟩
   have u:=s1.trans (B5.upd (o:= .tup [.str "trap",.str "flags",.str "clear"]) np)
   refine⟨p,_,rfl,.inr (SqT.of A6),rfl,rfl,_,rfl,?_⟩
   rw[if_neg Bool.false_ne_true,in3]
   generalize upd H1 p (.tup [.str "trap",.str "flags",.str "clear"])=G at u
   cases hin:(Q44:List Str).contains w0 with
   |false=>exact V1 ⟨u,rfl,rfl⟩
   | true=>
     rw[hin,if_pos rfl] at er
     refine Y1 ⟨_,rfl,d,CD,dd,_,_,rfl,u _ _ ed,DC.cl,DC.n,rfl,_,rfl,l,_,_,_,rfl,rfl,SqL.of (u _ _ el),at0,_,rfl,_,rfl,l,_,rfl,SqL.of (u _ _ el),fun q nq=>?_⟩
     have u2:=u.trans (B5.upd (o:= .lst (A4b (ws.map V.str) (some 1) none)) nq)
     have eq:upd G q (.lst (A4b (ws.map V.str) (some 1) none)) q=some (.lst ((ws.drop 1).map V.str)):=by rw[A6,cut1]
     generalize upd G q (.lst (A4b (ws.map V.str) (some 1) none))=G2 at u2 eq
     refine⟨c,v,a,b,xs,ys,w0,q,ws.drop 1,rfl,hc.same u2,eq,G0e okw,G5s ox,G2x ox,?_⟩
     revert er
     cases D4d w0 (ws.drop 1) xs ys with
     | none=>
       intro er
       obtain rfl:=Option.some.inj er
       exact fun H' s'=>k H' (u2.trans s')
     | some q=>
       intro er
       obtain rfl:=Option.some.inj er
       exact fun a' b' H' x ct nw=>k c a' b' H' (C0p ((Exc.of u2).trans x)) ⟨dd,x _ _ (u2 _ _ ed) ndc⟩ ct (fun z hz h1 h2=>nw z (fun e=>hz (u2.free e)) h1 h2) (.inl rfl)
 rintro σ' H2 ⟨s2,hn2,rfl⟩
 rw[hn2,if_neg Bool.false_ne_true] at er
 have el2:=s2 _ _ el
 have ed2:=s2 _ _ ed
 refine⟨fun σ' H'=>B5 H H'/\(["power","scaled"]:List Str).contains w0=false/\σ'=[sr d,sr l],?_,?_⟩
 . refine⟨_,rfl,l,_,_,_,rfl,rfl,SqL.of el2,at0,z2,fun p np=>?_⟩
   have u:=s2.trans (B5.upd (o:= .tup [.str "power",.str "scaled"]) np)
   refine⟨p,_,rfl,.inr (SqT.of A6),rfl,rfl,_,rfl,?_⟩
   rw[if_neg Bool.false_ne_true,in2]
   generalize upd H2 p (.tup [.str "power",.str "scaled"])=G at u
   cases hin:(["power","scaled"]:List Str).contains w0 with
   |false=>exact V1 ⟨u,rfl,rfl⟩
   | true=>
     rw[hin,if_pos rfl] at er
     obtain⟨rf,erf,rfl⟩:=Option.map_eq_some_iff.mp er
     refine Y1 ⟨_,rfl,d,CD,dd,_,_,rfl,u _ _ ed,DC.cl,DC.n,rfl,_,rfl,l,_,_,_,rfl,rfl,SqL.of (u _ _ el),at0,_,rfl,_,rfl,l,_,rfl,SqL.of (u _ _ el),fun q nq=>?_⟩
     have u2:=u.trans (B5.upd (o:= .lst (A4b (ws.map V.str) (some 1) none)) nq)
     have eq:upd G q (.lst (A4b (ws.map V.str) (some 1) none)) q=some (.lst ((ws.drop 1).map V.str)):=by rw[A6,cut1]
     generalize upd G q (.lst (A4b (ws.map V.str) (some 1) none))=G2 at u2 eq
     refine⟨c,w0,q,ws.drop 1,rf,rfl,eq,dl,by omega,erf,?_⟩
     have kk:=B7w hd hc k
     revert kk
     cases rf with
     |noline=>exact fun kk H' s'=>kk H' (u2.trans s')
     |notext=>exact fun kk H' s'=>kk H' (u2.trans s')
     |nocount=>exact fun kk H' s'=>kk H' (u2.trans s')
     |badctx=>exact fun kk H' s'=>kk H' (u2.trans s')
 rintro σ' H3 ⟨s3,hn3,rfl⟩
 rw[hn3,if_neg Bool.false_ne_true] at er
 have el3:=s3 _ _ el
 have hrec:∃rr,C3b ws=some rr:=by
   cases h:C3b ws with
   |none=>rw[h] at er;cases er
   |some rr=>exact⟨rr,rfl⟩
 obtain⟨rr,err⟩:=hrec
 rw[err] at er
 refine⟨_,rfl,d,CD,dd,_,_,rfl,s3 _ _ ed,DC.cl,DC.n,rfl,_,rfl,c,v,a,b,xs,ys,l,ws,rr,rfl,hc.same s3,ok,ox,el3,hne,lw,sw,err,?_⟩
 cases rr with
 | ref rf=>
   obtain rfl:=Option.some.inj er
   have kk:=B7w hd hc k
   revert kk
   cases rf with
   |noline=>exact fun kk H' s'=>kk H' (s3.trans s')
   |notext=>exact fun kk H' s'=>kk H' (s3.trans s')
   |nocount=>exact fun kk H' s'=>kk H' (s3.trans s')
   |badctx=>exact fun kk H' s'=>kk H' (s3.trans s')
 | op nm x1 x2=>
   have nwl:∀{a'},B6b CC H3 c a' ->NwL H a b a' b:=fun{a'} nw z hz h1 h2=>⟨nw z (fun e=>hz (s3.free e)) ⟨v,a,b,xs,ys,hc.same s3,h1⟩,h2⟩
   have er:(match opR v nm x1 x2 with|none=>none|some res=>match hit ys res.2 with|none=>if B1r res.1=true then some (B5e.ans (S (wrL res.1)) v (Z2 (xs++res.2)) ys) else none|some z=>some (.trap z (Z2 (xs++res.2))))=some r:=er
   cases hop:opR v nm x1 x2 with
   |none=>rw[hop] at er;cases er
   | some res=>
     rw[hop] at er
     have er:(match hit ys res.2 with|none=>if B1r res.1=true then some (B5e.ans (S (wrL res.1)) v (Z2 (xs++res.2)) ys) else none|some z=>some (.trap z (Z2 (xs++res.2))))=some r:=er
     refine⟨res,hop,?_⟩
     cases hh:hit ys res.2 with
     | none=>
       rw[hh] at er
       have er:(if B1r res.1=true then some (B5e.ans (S (wrL res.1)) v (Z2 (xs++res.2)) ys) else none)=some r:=er
       by_cases hok:B1r res.1=true
       . rw[if_pos hok] at er
         obtain rfl:=Option.some.inj er
         exact⟨fun _=>J2b hok,fun _ a' H' nw x ct=>k c a' b H' (C0p ((Exc.of s3).trans x)) ⟨dd,x _ _ (s3 _ _ ed) ndc⟩ ct (nwl nw) (.inl rfl),fun z hz=>by cases hz⟩
       . rw[if_neg hok] at er
         cases er
     | some z=>
       rw[hh] at er
       obtain rfl:=Option.some.inj er
       exact⟨(fun q=>nomatch q),(fun q=>nomatch q),fun z' hz a' d' H' nw x ct e=>by
         obtain rfl:=Option.some.inj hz
         exact k a' d' H' (C0p ((Exc.of s3).trans x)) ⟨dd,x _ _ (s3 _ _ ed) ndc⟩ ct (nwl nw) e⟩
noncomputable def J8c:Ref ->Option Str
 | .noline=>none
 | .notext=>some "no number"
 | .nocount=>some "no count"
 | .badctx=>some "bad context"
structure DSt where
 v:Cv
 xs:List Str
 ys:List Str
noncomputable def B0k (s:DSt) (ws:List Str):Option (Str×DSt):=if ws.contains ""=true then some ("no line",s) else match B7z s.v s.xs s.ys ws with
 |none=>none
 |some (.ans t v' xs' ys')=>some (t,⟨v',xs',ys'⟩)
 |some (.exc r)=>(J8c r).map fun t=>(t,s)
 |some (.trap z xs')=>if z.length<=100 then some ("trapped "++z,⟨s.v,xs',s.ys⟩) else none
structure DSt.Ok(s:DSt):Prop where
 v:s.v.Ok
 x:Z2 s.xs=s.xs
 y:Z2 s.ys=s.ys
structure B3a(CD CC:Addr)(H:Hp)(d c a b:Addr)(s:DSt):Prop where
 d:A1p CD H d c
 c:V4 CC H c s.v a b s.xs s.ys
structure G3z(K:Frag)(mg:Str ->Option Value)(C2 C3 C4 CT:Addr):Prop where
 g2:mg "NoText"=some (.ref C2)
 g4:mg "BadCount"=some (.ref C4)
 g3:mg "BadContext"=some (.ref C3)
 gT:mg "Trapped"=some (.ref CT)
 c2:A6n K C2
 c4:A6n K C4
 c3:A6n K C3
 cT:A6n K CT
 s22:subIn K (.ref C2) (.ref C2)=some true
 s42:subIn K (.ref C4) (.ref C2)=some false
 s44:subIn K (.ref C4) (.ref C4)=some true
 s32:subIn K (.ref C3) (.ref C2)=some false
 s34:subIn K (.ref C3) (.ref C4)=some false
 s33:subIn K (.ref C3) (.ref C3)=some true
 t2:subIn K (.ref CT) (.ref C2)=some false
 t4:subIn K (.ref CT) (.ref C4)=some false
 t3:subIn K (.ref CT) (.ref C3)=some false
 tT:subIn K (.ref CT) (.ref CT)=some true
 k:C3c K CT
 dict:∃cd,clsIn K CT=some cd/\cd.hasDict=true
 nosig:findIn K (.ref CT) "signal"=some none
theorem A1p.same{CD:Addr}{H H':Hp}{d c:Addr}(h:A1p CD H d c)(e:B5 H H'):A1p CD H' d c:=by
 obtain⟨dd,z⟩:=h
 exact⟨dd,e _ _ z⟩
theorem B3a.same{CD CC:Addr}{H H':Hp}{d c a b:Addr}{s:DSt}(h:B3a CD CC H d c a b s)(e:B5 H H'):B3a CD CC H' d c a b s:=⟨h.d.same e,h.c.same e⟩
theorem D0a{X:Cx}{K:Frag}(h:X.K=K){e:Expr}{f:Str}{pos:Pos}{ta:TE}(he:PE X e ta)(hb:attributeBase e f X.env (eval e X.env)=eval e X.env):PE X (.Attribute e f pos) (G3s K ta f):=by subst h;exact G1d he hb
noncomputable def G3x (CD CC:Addr):Sp:=fun vs H Q _=>∃d c a b s l ws t s',vs=[.ref d,.ref l]/\B3a CD CC H d c a b s/\s.Ok/\H l=some (.lst (ws.map V.str))/\Fit ws/\B0k s ws=some (t,s')/\∀c' a' b' H',C8g d c H H' ->B3a CD CC H' d c' a' b' s' ->NwL H a b a' b' ->(c'=c\/H c'=none) ->Q (.str t) H'
theorem scAnswer:B0 ["desk","words","refusal"] Q11 (A4 B0s):=scK
theorem C6k{f f1 CD CC C2 C3 C4 CT:Addr}(D:Def K mg "answer_of" Q11 B0s f fd)(dA:Def K mg "line_done" Q11 A5a f1 fd1)(dB:sI P w K mg base 15 f1 fd1 Q11 (D1w CD CC C2 C3 C4 CT))(R:G3z K mg C2 C3 C4 CT):sI P w K mg base 16 f fd Q11 (G3x CD CC):=by
 refine D.F.okE scAnswer (fun vs H Q E h=>?_) (fun X cdv A outer s H vs Q E hX hr hx h=>?_)
 . obtain⟨d,c,a,b,s,l,ws,t,s',rfl,_⟩:=h
   rfl
 subst hX
 obtain⟨d,c,a,b,s,l,ws,t,s',rfl,hd,ok,el,ft,er,k⟩:=h
 refine⟨_,(A2 (B7 (D7 (B9 A0t A3 (pv 1) (by rfl)) (A5 (A8 A3)) C6)) (A5 (B7 (G1g ⟨rfl,rfl,rfl⟩ (fun pins Ew EHb hc=>(A5 (A8 (C8 dA dB hr hc (A0 (pv 0) (A0 (pv 1) A1)))))) (C0f R.g2 R.c2 (fun pins a=>(A5 (A8 A3))) (C0f R.g4 R.c4 (fun pins a=>(A5 (A8 A3))) (C0f R.g3 R.c3 (fun pins a=>(A5 (A8 A3))) (J3h R.gT R.cT scAnswer.nd (i:=2) rfl rfl (fun pins a=>(A5 (A8 (D4 V6 A3 (D0a (K:=K) rfl (pv 2) rfl))))) G2p)))))))),?_⟩
 unfold B0k at er
 refine⟨fun σ' H'=>H'=H/\ws.contains ""=false/\σ'=[sr d,sr l,none],?_,?_⟩
 . refine⟨_,rfl,l,_,rfl,.inl (SqL.of el),rfl,A1b _,_,rfl,?_⟩
   rw[if_neg Bool.false_ne_true,A1f]
   cases hin:ws.contains "" with
   |false=>exact V1 ⟨rfl,rfl,rfl⟩
   | true=>
     rw[if_pos hin] at er
     have e:=Option.some.inj er
     obtain rfl:=(Prod.mk.inj e).1
     obtain rfl:=(Prod.mk.inj e).2
     exact Y1 (k c a b H (A9m (B5.refl _)) hd (NwL.refl _ _ _) (.inl rfl))
 rintro σ' H1 ⟨rfl,hno,rfl⟩
 rw[if_neg (by rw[hno];exact Bool.false_ne_true)] at er
 refine⟨_,?_,fun _ _ h=>h⟩
 cases hl:B7z s.v s.xs s.ys ws with
 |none=>rw[hl] at er;cases er
 | some r=>
   rw[hl] at er
   refine⟨_,rfl,_,rfl,d,c,s.v,a,b,s.xs,s.ys,l,ws,r,rfl,hd.d,hd.c,ok.v,ok.x,ok.y,el,ft,hl,?_⟩
   cases r with
   | ans t' v' xs' ys'=>
     have e:=Option.some.inj er
     obtain rfl:=(Prod.mk.inj e).1
     obtain rfl:=(Prod.mk.inj e).2
     exact fun c' a' b' H' kp hd' ct nw nc=>k c' a' b' H' kp ⟨hd',ct⟩ nw nc
   | exc rf=>
     cases rf with
     |noline=>cases er
     | notext=>
       have e:=Option.some.inj er
       obtain rfl:=(Prod.mk.inj e).1
       obtain rfl:=(Prod.mk.inj e).2
       exact fun H' s'=> .inl ⟨R.s22,fun x t T nx=>k c a b _ (A9m (s'.trans (B5.upd nx))) (hd.same (s'.trans (B5.upd nx))) (NwL.refl _ _ _) (.inl rfl)⟩
     | nocount=>
       have e:=Option.some.inj er
       obtain rfl:=(Prod.mk.inj e).1
       obtain rfl:=(Prod.mk.inj e).2
       exact fun H' s'=> .inr ⟨R.s42,.inl ⟨R.s44,fun x t T nx=>k c a b _ (A9m (s'.trans (B5.upd nx))) (hd.same (s'.trans (B5.upd nx))) (NwL.refl _ _ _) (.inl rfl)⟩⟩
     | badctx=>
       have e:=Option.some.inj er
       obtain rfl:=(Prod.mk.inj e).1
       obtain rfl:=(Prod.mk.inj e).2
       exact fun H' s'=> .inr ⟨R.s32,.inr ⟨R.s34,.inl ⟨R.s33,fun x t T nx=>k c a b _ (A9m (s'.trans (B5.upd nx))) (hd.same (s'.trans (B5.upd nx))) (NwL.refl _ _ _) (.inl rfl)⟩⟩⟩
   | trap z xs'=>
     have er:(if z.length<=100 then some (("trapped ":Str)++z,(⟨s.v,xs',s.ys⟩:DSt)) else none)=some (t,s'):=er
     by_cases lz:z.length<=100
     case neg=>rw[if_neg lz] at er;cases er
     rw[if_pos lz] at er
     have e:=Option.some.inj er
     obtain rfl:=(Prod.mk.inj e).1
     obtain rfl:=(Prod.mk.inj e).2
     refine fun a' d' H' kp hd' ct nw ed=> .inr ⟨R.t2,.inr ⟨R.t4,.inr ⟨R.t3,.inl ⟨R.tT,fun x t T nx=>?_⟩⟩⟩⟩
     have u:=B5.upd (o:= .frz (A0d (.ref CT) t (some d') (.ref T)) (.own x)) nx
     refine⟨_,rfl,x,CT,_,_,d',_,_,_,rfl,A6,u _ _ ed,R.k,R.dict,R.nosig,rfl,_,_,rfl,rfl,?_,k c a' b _ (fun p o e h1 h2=>u _ _ (kp p o e h1 h2)) ⟨hd'.same u,ct.same u⟩ nw (.inl rfl)⟩
     exact B8 (by rw[show("trapped ":Str).length=8 by decide+kernel];omega)
noncomputable abbrev A1s:Stmt:=(G4 (top 121) 0)
noncomputable abbrev B1f:Stmt:=(top 122)
noncomputable def st0:DSt:=⟨⟨9,.halfEven, -60,60⟩,[],[]⟩
theorem G6q{X:Cx}{K:Frag}{o e:Expr}{es:List Expr}{to:TE}{t:TA}{name:Str}{apos cpos:Pos}{T id:String}{r:V ->List V ->Hp ->VK ->Prop}(hK:X.K=K)(pa:PlainAttrs T)(slot:Slot T name id)(hty:typeOf (.builtin id)=pure (.type "method_descriptor"))(hm:MtR X id r)(ho:PE X o to)(ha:PA X (e::es) t)
   (hbase:attributeBase o name X.env (eval o X.env)=eval o X.env:=by rfl)
   (hfew:((backTo cpos (starEach (e::es) X.env)).all (fun x=> !x.1)&&(backToKw cpos (keywordEach [] X.env)).all (fun x=>x.1.isSome)&&decide ((e::es).length+([]:List Keyword).length+(if([]:List Keyword).isEmpty then 0 else 1)<30))=true:=by rfl)
   (hline:(apos.endLine==cpos.line)=true:=by rfl) (hs:starEach (e::es) X.env=(false,eval e X.env)::starEach es X.env:=by rfl) (hplain:(backTo cpos (starEach es X.env)).any (·.1)=false:=by rfl):PE X (.Call (.Attribute o name apos) (e::es) [] cpos) (tBM K T r to t):=by
 subst hK
 exact A1q pa slot hty hm ho ha hbase hfew hline hs hplain
structure J4u(zs ts:List Str)(st:Nat ->DSt):Prop where
 s0:st 0=st0
 len:ts.length=zs.length
 n:zs.length<=900
 go:∀i z,zs[i]?=some z ->∃t,ts[i]?=some t/\z.length<=900/\Fit (Txt.split z " ")/\(st i).Ok/\B0k (st i) (Txt.split z " ")=some (t,st (i+1))
noncomputable def B2q (CD CC:Addr):Sp:=fun vs H Q _=>∃p dx,vs=[.ref p]/\H p=some (.ins CD dx [])/\∀c a b H',Exc p H H' ->H c=none ->H a=none ->H b=none ->H' p=some (.ins CD dx [("context",.ref c)]) ->V4 CC H' c st0.v a b [] [] ->Q .non H'
theorem C0w:B0 ["self"] ["self"] (A4 A1s):=scK
structure G4a(P:Program)(w:World)(K:Frag)(mg:Str ->Option Value)(base:Heap)(CC CB fI:Addr)(fdI:FuncData)(d9 dh d60:Value):Prop where
 m:D4g P w K mg base CC CB fI fdI
 b0:L2.Binds K fdI Q26 [d9,dh,.none,d60]
 r9:U4 (.int 9) d9
 rh:U4 (.str "half even") dh
 r60:U4 (.int 60) d60
theorem B9v{f fI CD CC CB:Addr}{fd fdI:FuncData}{d9 dh d60:Value}(F:Fun K "__init__" "Desk.__init__" A1s f fd)(M0:G4a P w K mg base CC CB fI fdI d9 dh d60)(DC:B9z K mg CD)(C:B0n K mg CC):sI P w K mg base 5 f fd ["self"] (B2q CD CC):=by
 refine F.okE C0w (fun vs H Q E h=>?_) (fun X cdv A outer s H vs Q E hX hr hx h=>?_)
 . obtain⟨p,dx,rfl,_⟩:=h
   rfl
 subst hX
 obtain⟨p,dx,rfl,ep,k⟩:=h
 have V0:J0 [.int 9,.str "half even",.non,.int 60] [d9,dh,.none,d60]:= .cons M0.r9 (.cons M0.rh (.cons rfl (.cons M0.r60 .nil)))
 refine⟨_,(A5 (Z6 (pv 0) (C8s M0.m.m M0.m.g hr C.g M0.b0 V0 hx) rfl)),?_⟩
 intro x dx' n1 n2 ne
 refine⟨x,dx',_,_,_,_,rfl,A6,.inl ⟨9,.halfEven, -60,60,rfl,by decide,by decide,rfl,.inl ⟨rfl,rfl⟩,rfl,by decide,by decide,fun a b H4 e na nb c=>⟨rfl,?_⟩⟩⟩
 have free:∀q,upd (upd H dx' (.own x)) x (.ins CC dx' []) q=none ->H q=none:=fun q hq=>by
   by_cases q1:q=x
   . rw[q1];exact n1
   . rw[C9 q1] at hq
     by_cases q2:q=dx'
     . rw[q2];exact n2
     . rw[C9 q2] at hq;exact hq
 have s4:=A6x n1 n2 ne e
 have ep4:=s4 _ _ ep
 refine⟨_,rfl,p,CD,dx,_,rfl,ep4,DC.cl,DC.n,by show 0<1000;decide,?_⟩
 obtain⟨dxc,ec⟩:=c.ins
 refine k x a b _ ((Exc.of s4).trans Exc.upd) n1 (free a na) (free b nb) A6 ⟨⟨dxc,?_⟩,?_,?_⟩
 . rw[C9 (Ne.symm (D5 ep n1))];exact ec
 . rw[C9 (A1w c.ha ep4 (by intro z;cases z))];exact c.ha
 rw[C9 (A1w c.hb ep4 (by intro z;cases z))];exact c.hb
structure G3y(P:Program)(w:World)(K:Frag)(mg:Str ->Option Value)(base:Heap)(CD CC fI:Addr)(fdI:FuncData):Prop where
 m:Mk K CD fI
 g:sI P w K mg base 5 fI fdI ["self"] (B2q CD CC)
 b:L2.Binds K fdI ["self"] []
noncomputable def B9w:Sp:=fun vs H Q _=>∃l zs ts st,vs=[.ref l]/\H l=some (.lst (zs.map V.str))/\J4u zs ts st/\∀D H',B5 H H' ->H D=none ->H' D=some (.lst (ts.map V.str)) ->Q (.ref D) H'
theorem scPlayed:B0 ["lines","desk"] ["lines"] (A4 B1f):=scK
theorem C6b{f f1 fI CD CC:Addr}{fd fd1 fdI:FuncData}(D:Def K mg "played" ["lines"] B1f f fd)(dA:Def K mg "answer_of" Q11 B0s f1 fd1)(dB:sI P w K mg base 16 f1 fd1 Q11 (G3x CD CC))(MD:G3y P w K mg base CD CC fI fdI)(DC:B9z K mg CD):sI P w K mg base 17 f fd ["lines"] B9w:=by
 refine D.F.okE scPlayed (fun vs H Q E h=>?_) (fun X cdv A outer s H vs Q E hX hr hx h=>?_)
 . obtain⟨l,zs,ts,st,rfl,_⟩:=h
   rfl
 subst hX
 obtain⟨l,zs,ts,st,rfl,el,R,k⟩:=h
 refine⟨_,(A2 (B7 (D3 (i:=1) scPlayed.nd rfl (Or.inr rfl) (C8s MD.m MD.g hr DC.g MD.b .nil hx))) (A5 (A8 (A5e (N:=["line"]) (F:=["desk"]) (js:=[1]) (G0.of1 ⟨rfl,by decide+kernel,by decide+kernel,by decide+kernel,by decide+kernel⟩ (by rfl) (by rfl) ⟨_,by rfl⟩ (by rfl) (by rfl)) (.inl hr.hd) rfl (A2g (pv 0)) rfl (fun C s₀ H₀ ex pn h=>A1c (i:=0) (by decide+kernel:(["line","desk"]:List Str).Nodup) rfl (Or.inl rfl)) (fun C s₀ H₀ ex pn h=>(G5w dA dB hr (A0 (pv 1) (A0 (G6q (K:=K) rfl PySem.F.plainAttrs_str PySem.F.slot_str_split PySem.F.type_str_split D3d (pv 0) (A0 A3 A1)) A1)))))))),?_⟩
 have n1:((" ":Str).length==0)=false:=by decide+kernel
 have Rn:=R.n
 refine⟨fun σ' H'=>∃d c a b,B5 H H'/\H d=none/\H c=none/\B3a CD CC H' d c a b st0/\σ'=[sr l,sr d],?_,?_⟩
 . intro x dx nx nd ne
   refine⟨x,dx,rfl,A6,fun c a b H' ex nc na nb ed ct=>⟨rfl,x,c,a,b,A6x nx nd ne ex,nx,?_,⟨⟨dx,ed⟩,ct⟩,rfl⟩⟩
   by_cases q1:c=x
   . rw[q1];exact nx
   . rw[C9 q1] at nc
     by_cases q2:c=dx
     . rw[q2];exact nd
     . rw[C9 q2] at nc;exact nc
 rintro σ' H1 ⟨d,c,a,b,s1,nd,nc,hd,rfl⟩
 have el1:=s1 _ _ el
 refine⟨_,rfl,l,rfl,⟨_,SqL.of el1⟩,fun D nD=>⟨zs.length,fun i ys H2=>i<=zs.length/\ys=(ts.take i).map V.str/\H2 D=some (.lst ys)/\(∃c a b,B3a CD CC H2 d c a b (st i)/\a≠D/\b≠D/\H c=none)/\∀p o,H p=some o ->H2 p=some o,?_,?_⟩⟩
 . have u:=B5.upd (o:= .lst []) nD
   refine⟨Nat.zero_le _,rfl,A6,⟨c,a,b,by rw[R.s0];exact hd.same u,D5 hd.c.ha nD,D5 hd.c.hb nD,nc⟩,fun p o e=>u _ _ (s1 _ _ e)⟩
 rintro i ys H2 ⟨hi,rfl,eD,⟨c2,a2,b2,hd2,na2,nb2,nc2⟩,kp⟩
 refine⟨hi,eD,?_⟩
 by_cases hlt:i<zs.length
 . obtain⟨t,et,lz,ft,ok,ea⟩:=R.go i zs[i] (List.getElem?_eq_getElem hlt)
   refine .inr ⟨hlt,⟨_,V.str zs[i],SqL.of (kp _ _ el),by simp[hlt]⟩,fun x H3 yl=>?_⟩
   obtain⟨rfl,yl⟩:=yl
   have ex:x=V.str zs[i]:=by
     have:=yl _ (SqL.of (kp _ _ el))
     simp[hlt] at this
     exact this.symm
   subst ex
   refine⟨_,rfl,_,rfl,rfl,zs[i],_,rfl,rfl,n1,B8 (by show zs[i].length+2<=1000;omega),fun p np=>?_⟩
   have u:=B5.upd (o:= .lst ((Txt.split zs[i] " ").map V.str)) np
   refine⟨d,c2,a2,b2,st i,p,Txt.split zs[i] " ",t,st (i+1),rfl,hd2.same u,ok,A6,ft,ea,fun c' a' b' H' kp' hd' nw nc'=>?_⟩
   have eD3:=u _ _ eD
   have dD:D≠d:=by
     obtain⟨dd,e⟩:=hd2.d
     exact A1w eD e (by intro z;cases z)
   have cD:D≠c2:=by
     obtain⟨dx,e⟩:=hd2.c.ins
     exact A1w eD e (by intro z;cases z)
   have eD':=kp' _ _ eD3 dD cD
   have nw':=nw D (by rw[eD3];simp) na2 nb2
   have et':(ts.take i).map V.str++ [V.str t]=(ts.take (i+1)).map V.str:=by
     rw[List.take_succ,et,List.map_append]
     rfl
   refine⟨eD',by rw[List.length_map,List.length_take];exact Y6 (by omega),hlt,et',by rw[A6],⟨c',a',b',?_,nw'.1,nw'.2,?_⟩,fun q o e=>?_⟩
   . have nn:∀{q o},H' q=some o ->q≠D ->upd H' D (.lst ((ts.take i).map V.str++ [V.str t])) q=some o:=fun e n=>by rw[C9 n];exact e
     obtain⟨⟨dd,e1⟩,⟨⟨dx,e2⟩,e3,e4⟩⟩:=hd'
     exact⟨⟨dd,nn e1 (A1w e1 eD' (by intro z;cases z))⟩,⟨⟨dx,nn e2 (A1w e2 eD' (by intro z;cases z))⟩,nn e3 nw'.1,nn e4 nw'.2⟩⟩
   . rcases nc' with q|q
     . rw[q];exact nc2
     . cases hq:H c' with
       |none=>rfl
       | some o=>
         have:=u _ _ (kp _ _ hq)
         rw[q] at this
         cases this
   . have ne1:q≠d:=D5 e nd
     have ne2:q≠c2:=D5 e nc2
     have neD:q≠D:=D5 e (s1.free nD)
     rw[C9 neD]
     exact kp' _ _ (u _ _ (kp _ _ e)) ne1 ne2
 have ei:i=zs.length:=by omega
 subst ei
 refine .inl ⟨⟨_,SqL.of (kp _ _ el),by simp⟩,k D H2 (fun q o e=>kp q o e) (s1.free nD) ?_⟩
 rw[eD, <-R.len,List.take_length]
end TR
namespace L2
open PySem PySem.W PyProof.Rows
section
variable{X:Cx}{pins:List (Addr×Obj)}{σ:List (Option V)}{H H':Hp}{s:Shared}{h':Heap}
theorem B3w{M:Model}{A:Around}{E:Value ->Shared ->Prop}{i:Nat}{x:Str}{v:V}{u:Value}{Q:Unit ->Shared ->Prop}(I:Inv X pins σ H s)(hN:X.N.Nodup)(hi:X.N[i]?=some x)(hx:Loc X.env.scope x)(r:U4 v u)
   (h:∀s',Inv X pins (σ.set i (some v)) H s' ->(X.env.scope.names.lookup x=some .local ->∃m,s.heap.Ns X.env.locals m/\s'.heap.Ns X.env.locals (fun y=>if y=x then some u else m y)) ->Q () s') (hf:X.fn x=true\/X.env.scope.names.lookup x=some .local:=by first|exact .inl rfl|exact .inr rfl|assumption):wpAny M A (storeName X.env x u) Q E s:=by
 obtain⟨m,hn,hl⟩:=id I.loc
 have hcls:(X.env.scope.kind== .class||(X.env.scope.kind== .module&&X.env.locals !=X.env.globals))=false:=by rw[I.ok.kind];rfl
 have hiσ:i<σ.length:=by rw[I.len];exact(List.getElem?_eq_some_iff.mp hi).1
 have cne:=I.cne
 have tracked:∀{a:Addr} {h':Heap},(∃o,s.heap.get? a=some o/\H a=none) ->Heap.SameBut a s.heap h' ->HOk X.prog X.w H h':=fun{a h'} ha hs b ob e=>by
   obtain⟨_,_,hfree⟩:=ha
   refine(I.hok b ob e).stay (fun c w' hc q=>(hs.2 c ?_).trans q) (fun _ q=>q) fun _ _ q=>q
   rintro rfl
   rcases hc with rfl|hc
   . rw[hfree] at e;cases e
   . rw[hfree] at hc;cases hc
 rcases hx with hk|hk
 . refine wpAny_storeName_local hk hn (fun h' hn' hs=>?_) hcls
   obtain⟨oL,_,_,hoL,_⟩:=id hn
   refine h _ ⟨I.ok,I.os,I.bare,⟨fun b o e n hb hx=>?_,fun b o e n hb hx=>?_,I.base.free,fun b o e hx=>?_,I.base.tups,I.base.frzs,I.base.tbls⟩,⟨_,hn',fun j y v' e1 e2 e3=>?_⟩,fun y c e=>?_,I.free,I.freeC,fun p hp=>?_,tracked ⟨oL,hoL,I.free⟩ hs,by simpa using I.len⟩ (fun _=>⟨m,hn,hn'⟩)
   . exact(hs.2 b (Nat.ne_of_lt (Nat.lt_of_lt_of_le (Heap.lt_size e) I.ok.above))).trans (I.base.keep b o e n hb hx)
   . obtain⟨sl,e1⟩:=I.base.slot b o e n hb hx
     exact⟨sl,(hs.2 b (Nat.ne_of_lt (Nat.lt_of_lt_of_le (Heap.lt_size e) I.ok.above))).trans e1⟩
   . obtain⟨o',e1⟩:=I.base.there b o e hx
     exact⟨o',(hs.2 b (Nat.ne_of_lt (Nat.lt_of_lt_of_le (Heap.lt_size e) I.ok.above))).trans e1⟩
   . by_cases hj:j=i
     . subst hj
       rw[hi] at e1;cases e1
       rw[List.getElem?_set_self hiσ] at e2
       cases e2
       exact⟨u,r,.inl ⟨hk,by simp⟩⟩
     . rw[List.getElem?_set_ne (Ne.symm hj)] at e2
       obtain⟨u',r',q⟩:=hl j y v' e1 e2 e3
       refine⟨u',r',?_⟩
       rcases q with⟨k,e⟩|⟨k,c,e,z⟩
       . refine .inl ⟨k,?_⟩
         have:y≠x:=fun e=>hj (A4k hN e1 (e▸hi))
         simp[this,e]
       . exact .inr ⟨k,c,e,z.sameBut hs (cne y c e)⟩
   . obtain⟨w',z⟩:=I.cell y c e
     exact⟨w',z.sameBut hs (cne y c e)⟩
   . obtain⟨e,n,ne,nf,d⟩:=I.pin p hp
     exact⟨(hs.2 p.1 ne).trans e,n,ne,nf,d⟩
 have hfn:X.fn x=true:=by
   rcases hf with z|z
   . exact z
   . rw[z] at hk;cases hk
 obtain⟨c,hc⟩:=I.ok.has x (.inl hk)
 obtain⟨w',z⟩:=I.cell x c hc
 refine wpAny_storeName_cell I.ok.kind hk hc z (fun h' hc' hs=>?_)
 obtain⟨oc,hoc,hocd⟩:=id z
 refine h {s with heap:=h'} ⟨I.ok,I.os,I.bare,⟨fun b o e n hb hx=>?_,fun b o e n hb hx=>?_,I.base.free,fun b o e hx=>?_,I.base.tups,I.base.frzs,I.base.tbls⟩,⟨m,hn.sameBut hs (Ne.symm (cne x c hc)),fun j y v' e1 e2 e3=>?_⟩,fun y c' e=>?_,I.free,I.freeC,fun p hp=>?_,tracked ⟨oc,hoc,I.freeC x c hc⟩ hs,by simpa using I.len⟩ (fun z=>by rw[hk] at z;cases z)
 . exact(hs.2 b (Nat.ne_of_lt (Nat.lt_of_lt_of_le (Heap.lt_size e) (I.ok.cab x c hfn hc)))).trans (I.base.keep b o e n hb hx)
 . obtain⟨sl,e1⟩:=I.base.slot b o e n hb hx
   exact⟨sl,(hs.2 b (Nat.ne_of_lt (Nat.lt_of_lt_of_le (Heap.lt_size e) (I.ok.cab x c hfn hc)))).trans e1⟩
 . obtain⟨o',e1⟩:=I.base.there b o e hx
   exact⟨o',(hs.2 b (Nat.ne_of_lt (Nat.lt_of_lt_of_le (Heap.lt_size e) (I.ok.cab x c hfn hc)))).trans e1⟩
 . by_cases hj:j=i
   . subst hj
     rw[hi] at e1;cases e1
     rw[List.getElem?_set_self hiσ] at e2
     cases e2
     exact⟨u,r,.inr ⟨.inl hk,c,hc,hc'⟩⟩
   . rw[List.getElem?_set_ne (Ne.symm hj)] at e2
     obtain⟨u',r',q⟩:=hl j y v' e1 e2 e3
     refine⟨u',r',?_⟩
     rcases q with q|⟨k,c',e,z'⟩
     . exact .inl q
     . refine .inr ⟨k,c',e,z'.sameBut hs ?_⟩
       rintro rfl
       exact hj (A4k hN e1 (I.ok.inj _ _ _ e hc▸hi))
 . by_cases hcc:c'=c
   . subst hcc;exact⟨_,hc'⟩
   . obtain⟨w2,z2⟩:=I.cell y c' e
     exact⟨w2,z2.sameBut hs hcc⟩
 obtain⟨e,n,ne,nf,d⟩:=I.pin p hp
 refine⟨(hs.2 p.1 ?_).trans e,n,ne,nf,d⟩
 intro q
 rw[q,hoc] at e
 have q':oc=p.2:=Option.some.inj e
 exact d w' (by rw[<-q'];exact hocd)
end
structure A8n(P:Program)(w:World)(K:PySem.W.Frag)(mg:Str ->Option Value)(base:Heap)(CX:CXT)(k:Nat)(f:Addr)(fd:FuncData)(ps:List Str)(sp:Sp):Prop where
 len:∀vs H Q E,sp vs H Q E ->vs.length=ps.length
 run:∀(A:Around) (outer:List Env) (s:Shared) (H:Hp) (args:Args) (us:List Value) (vs:List V) (Q:VK) (E:XK),0<s.toks ->Y9 k A ->B9x P w K mg base A outer s H ->BindsTo s fd args (ps.zip us) ->J0 vs us ->sp vs H Q E ->
   codeAny (model P w) A (.call (.ref f) args) (CR CX outer P w H s Q E) s
theorem A8n.mono{P:Program}{w:World}{K:PySem.W.Frag}{mg:Str ->Option Value}{base:Heap}{CX:CXT}{j k:Nat}{f:Addr}{fd:FuncData}{ps:List Str}{sp:Sp}(F:A8n P w K mg base CX j f fd ps sp)(h:j<=k):
   A8n P w K mg base CX k f fd ps sp:=⟨F.len,fun A outer s H args us vs Q E t0 hr=>F.run A outer s H args us vs Q E t0 (hr.mono h)⟩
theorem G7z{CX:CXT}{P:Program}{w:World}{K:PySem.W.Frag}{mg:Str ->Option Value}{base:Heap}{k:Nat}{f:Addr}{name qual:Str}{params:Arguments}{body:List Stmt}{scope:Scope}{dV kV doc pm cdv ct oc:Value}{an od:Option Addr}
   {osl:Array (Option Value)} {N ps:List Str} {sp:Sp} (lk:K.lookup f=some ⟨oc,od,.func (PySem.W.fnOf name qual params body scope dV kV doc pm an cdv ct),osl⟩) (hcd:PySem.W.codeIn K cdv qual=true) (S:B0 N ps scope)
   (len:∀vs H Q E,sp vs H Q E ->vs.length=ps.length)
   (hbody:∀(A:Around) (outer:List Env) (s:Shared) (H:Hp) (vs:List V) (Q:VK) (E:XK),Y9 k (A.deeper (envOfC qual scope s.heap.objs.size f cdv)) ->sp vs H Q E ->
     ∃t,G2c (A0v CX P w K mg base N qual scope f cdv A outer s H E) body t/\t {nx:=fun _ H'=>Q .non H',rt:=Q} (A2d N vs) H):
   A8n P w K mg base CX (k+1) f (PySem.W.fnOf name qual params body scope dV kV doc pm an cdv ct) ps sp:=by
 refine⟨len,fun A outer s H args us vs Q E t0 hr e0 hb r hsp=>?_⟩
 have hl:=len _ _ _ _ hsp
 have KX:K.In s.heap:=e0.mod.kin.keeps fun b o e=>(e0.bs b o e).1
 have lim:s.heap.NoLimit:=e0.mod.nolimit.keeps fun b o e=>(e0.bs b o e).1
 have hkind:∀y∈ps.zip us,scope.names.lookup y.1=some .local\/(scope.names.lookup y.1=some .cell/\((cellsFrom (s.heap.objs.size+1) scope.names []).lookup y.1).isSome=true):=fun⟨n,v⟩ hy=>by
   rcases S.par n (List.of_mem_zip hy).1 with q|q
   . exact .inl q
   . exact .inr ⟨q,PySem.W.cellsFrom_some _ _ _ (.inl q)⟩
 refine codeAny_call_function hr.depth (KX _ _ lk) rfl S.co S.gen rfl (PySem.W.codeRec_of KX hcd) (hb _ _ _ _ ?_)
 refine wpAny_with_toks (n:=1) t0 (wpAny_mono (wpAny_newFunctionEnv_cells (Q:=fun e s'=>1<=s'.toks ->_) S.kind hkind fun env he s1 x t1=>?_) (fun _ _ z=>z) (fun _ _ z _=>z))
 subst he
 refine⟨lim.keeps x.toInCall.keep,codeAny_func ?_⟩
 obtain⟨t,ht,hq⟩:=hbody A outer s H vs Q E (hr.deeper _) hsp
 have I:Inv (A0v CX P w K mg base N qual scope f cdv A outer s H E) [] (A2d N vs) H s1:=B4d S hr.hd e0 hl r x
 refine wpAny_mono (ht [] s1 (A2d N vs) H _ t1 I hq) (fun fl s' hs=>?_) fun e s' hs=>hs
 have fin:∀{σ':St} {H':Hp} {v:V} {u:Value},Inv (A0v CX P w K mg base N qual scope f cdv A outer s H E) [] σ' H' s' ->U4 v u ->Q v H' ->CE outer P w H s Q u s':=
   fun{σ' H' v u} J rv q=>⟨v,H',J.os,J.bare,J.base,J.hok,rv,q⟩
 cases fl with
 | ret u=>
   obtain⟨v,σ',H',J,rv,q⟩:=hs
   exact fin J rv q
 | next=>
   obtain⟨σ',H',J,q⟩:=hs
   exact fin (v:=V.non) (u:=Value.none) J rfl q
 | brk=>
   obtain⟨_,_,_,q⟩:=hs
   exact False.elim q
 | cont=>
   obtain⟨_,_,_,q⟩:=hs
   exact False.elim q
section
variable{P:Program}{w:World}{K:PySem.W.Frag}{mg:Str ->Option Value}{base:Heap}
theorem Fun.okET{x qual:Str}{st:Stmt}{f:Addr}{fd:FuncData}{N ps:List Str}{k:Nat}{sp:Sp}(F:Fun K x qual st f fd)(S:B0 N ps (A4 st))(len:∀vs H Q E,sp vs H Q E ->vs.length=ps.length)
   (hbody:∀(X:Cx) (cdv:Value) (A:Around) (outer:List Env) (s:Shared) (H:Hp) (vs:List V) (Q:VK) (E:XK),X=A0v (CX1 P w) P w K mg base N qual (A4 st) f cdv A outer s H E ->Y9 k X.A ->G7 X (fun C dd _ H'=>E C dd H') ->sp vs H Q E ->
     ∃t,G2c (A0v (CX1 P w) P w K mg base N qual (A4 st) f cdv A outer s H E) (G8 st) t/\t {nx:=fun _ H'=>Q .non H',rt:=Q} (A2d N vs) H):A8n P w K mg base (CX1 P w) (k+1) f fd ps sp:=by
 obtain⟨oc,od,kV,doc,pm,an,cdv,ct,osl,rfl,lk,hc⟩:=F.ex
 exact G7z lk hc S len fun A outer s H vs Q E hr h=>hbody _ cdv A outer s H vs Q E rfl hr A6b h
end
section
variable{X:Cx}{x:Str}{p pos p1 p2:Pos}{e a b ix:Expr}{es:List Expr}{t:TA}{ta tb te tix:TE}{f:Addr}{fd:FuncData}{ps:List Str}{sp:Sp}{j k c:Nat}{EH:EK}{st:Stmt}
theorem G0x{pins:List (Addr×Obj)}{σ:St}{H:Hp}{s:Shared}{Q:VK}{us:List Value}{vs:List V}(F:A8n X.prog X.w X.K X.mg X.base (CX1 X.prog X.w) k f fd ps sp)(hr:Y9 k X.A)(hb:Binds X.K fd ps [])
   (hx:G7 X EH) (hex:X.ex=[]) (I:Inv X pins σ H s) (t0:0<s.toks) (r:J0 vs us) (h:sp vs H Q (fun C d H'=>EH C d σ H')):wpAny (model X.prog X.w) X.A (call (.ref f) us) (EP X pins σ Q) X.xe s:=by
 have hl:us.length=ps.length:=by rw[<-r.length];exact F.len _ _ _ _ h
 refine wpAny_call (codeAny_mono (F.run X.A X.stack s H ⟨us,[]⟩ us vs Q _ t0 hr I.env0 (by have:=hb s us I.kIn (by rw[List.append_nil];exact hl);rw[List.append_nil] at this;exact this) r h) fun r s' hq=>?_)
 cases r with
 |error e=>exact G5n hx hex I hq
 | ok fl=>
   cases fl with
   |ret u=>exact I.after hq
   |next=>exact False.elim hq
   |brk=>exact False.elim hq
   |cont=>exact False.elim hq
theorem D3h{op:Operator}{r:R2}{i:Int}{c0:Nat}(D:Def X.K X.mg x ps st f fd)(F:A8n X.prog X.w X.K X.mg X.base (CX1 X.prog X.w) j f fd ps sp)(hr:Y9 k X.A)(hx:G7 X EH)(ho:OpR X (binaryOp op) r)(ha:PE X a ta)(hj:j<=k:=by decide)(hg:Gl X x:=by rfl)(hex:X.ex=[]:=by rfl)(hdb:(x==("__debug__":Str))=false:=by decide)
   (he:starEach [Expr.BinOp a op (.Constant (.int i) c0 p1) p2] X.env=(false,eval (Expr.BinOp a op (.Constant (.int i) c0 p1) p2) X.env)::starEach [] X.env:=by rfl) (hpl:(backTo pos (starEach [] X.env)).any (·.1)=false:=by rfl):
   PE X (.Call (.Name x p) [Expr.BinOp a op (.Constant (.int i) c0 p1) p2] [] pos) (A8u sp [] EH (A8a (tOp r ta (tC (.int i))) B3m)):=by
 intro pins s σ H Q I h
 refine wpAny_Call_Name_kw (Z8 I hg D.g ?_ hdb)
 refine PySem.W.callWith_K (h₀:=X.base) I.ok.mod.kin D.F.kp ?_ he hpl
 rw[he]
 show wpAny _ _ (spliced ((false,eval (Expr.BinOp a op (.Constant (.int i) c0 p1) p2) X.env)::backTo pos (starEach [] X.env))) _ _ s
 refine Calls.spliced_cons (wpAny_BinOp (thn (ha pins s σ H _ I h) fun v s1 ⟨y,H1,I1,r1,q1⟩=>wpAny_Constant_int ?_))
 refine thk (Nat.succ_pos _) (ho pins _ σ H1 y (.int i) v _ _ (I1.tok _) r1 ⟨_,rfl⟩ q1) fun u s2 p2 hh_=>?_
 obtain⟨z,H2,I2,r2,q2⟩:=hh_
 refine Calls.spliced_nil ⟨I2.kIn,?_⟩
 exact G0x (vs:=[z]) (F.mono hj) hr D.b hx hex I2 p2 (.cons r2 .nil) q2
noncomputable def PX (X:Cx) (e:Expr) (t:TE):Prop:=∀(pins:List (Addr×Obj)) (s:Shared) (σ:St) (H:Hp) (Q:VK),Inv X pins σ H s ->t σ H Q ->
 wpAny (model X.prog X.w) X.A (eval e X.env) (fun v s'=>∃k x H',s'={s with toks:=k}/\s.toks<=k/\Inv X pins σ H' s'/\U4 x v/\Q x H') X.xe s
theorem A9g{i:Nat}(hN:X.N[i]?=some x)(hv:Vis X.env.scope x)(hd:(x==("__debug__":Str))=false:=by decide)(hcd:(x==("__classdict__":Str))=false:=by decide):PX X (.Name x pos) (G5d i):=by
 intro pins s σ H Q I h
 obtain⟨v,e,h⟩:=h
 obtain⟨m,hn,hl⟩:=I.loc
 obtain⟨u,r,l⟩:=hl i x v hN e hv
 have fin:∃k x H',s={s with toks:=k}/\s.toks<=k/\Inv X pins σ H' s/\U4 x u/\Q x H':=⟨s.toks,v,H,rfl,Nat.le_refl _,I,r,h⟩
 rcases l with⟨hk,hm⟩|⟨hk,c,hc,hcell⟩
 . exact wpAny_Name (wpAny_loadName_local I.ok.kind hk hn hm fin) hd
 rcases hk with hk|hk
 . exact wpAny_Name (wpAny_loadName_cell I.ok.kind hk hc hcell fin) hd
 exact wpAny_Name (wpAny_loadName_free I.ok.kind hk hc hcell fin hcd) hd
theorem A8v{i j pos}:PX X (.Constant (.int i) j pos) (tC (.int i)):=fun _ _ _ H _ I h=>wpAny_Constant_int ⟨_,.int i,H,rfl,Nat.le_succ _,I.tok _,⟨_,rfl⟩,h⟩
theorem D0x{op:Operator}{r:R2}(ho:∀(pins:List (Addr×Obj)) (s:Shared) (σ:St) (H:Hp) (x y:V) (v u:Value) (Q:VK),Inv X pins σ H s ->U4 x v ->U4 y u ->r x y H Q ->wpAny (model X.prog X.w) X.A (binaryOp op v u) (fun v s'=>∃k x H',s'={s with toks:=k}/\s.toks<=k/\Inv X pins σ H' s'/\U4 x v/\Q x H') X.xe s)(ha:PX X a ta)(hb:PX X b tb):PX X (.BinOp a op b pos) (tOp r ta tb):=by
 intro pins s σ H Q I h
 refine wpAny_BinOp (thn (ha pins s σ H _ I h) fun v s1 ⟨k1,x,H1,e1,l1,I1,r1,q1⟩=>thn (hb pins s1 σ H1 _ I1 q1) fun u s2 hh_=>?_)
 obtain⟨k2,y,H2,e2,l2,I2,r2,q2⟩:=hh_
 subst e1
 subst e2
 refine thn (ho pins _ σ H2 x y v u Q I2 r1 r2 q2) fun z s3 hh_=>?_
 obtain⟨k3,y',H3,e3,l3,I3,r3,q3⟩:=hh_
 subst e3
 exact⟨k3,y',H3,rfl,Nat.le_trans l1 (Nat.le_trans l2 l3),I3,r3,q3⟩
theorem B6y(ha:PX X a ta)(hb:PX X b tb):PX X (.BinOp a .Mod b pos) (tOp (rI (fun _ j=>0<j) fun i j=> .int (i % j)) ta tb):=by
 refine D0x (fun pins s σ H x y v u Q I r1 r2 q=>?_) ha hb
 obtain⟨i,j,rfl,rfl,hd,q⟩:=q
 obtain⟨t1,rfl⟩:=r1
 obtain⟨t2,rfl⟩:=r2
 have d0:(0:Int)<j:=hd
 refine mod_int' (by omega) ?_
 rw[Int.fmod_eq_emod_of_nonneg i (by omega)]
 exact⟨_,.int (i % j),H,rfl,Nat.le_succ _,I.tok _,⟨_,rfl⟩,q⟩
theorem C3q(ha:PX X a ta)(hb:PX X b tb):PX X (.BinOp a .FloorDiv b pos) (tOp (rI J6g fun i j=> .int (i/j)) ta tb):=by
 refine D0x (fun pins s σ H x y v u Q I r1 r2 q=>?_) ha hb
 obtain⟨i,j,rfl,rfl,hd,q⟩:=q
 obtain⟨t1,rfl⟩:=r1
 obtain⟨t2,rfl⟩:=r2
 have h1:(0:Int)<j:=hd.1
 have h2:j<1073741824:=hd.2
 refine floordiv_int (by omega) ?_ (.inl (PyProof.noPylong_small (by omega)))
 rw[Int.fdiv_eq_ediv_of_nonneg i (by omega)]
 exact⟨_,.int (i/j),H,rfl,Nat.le_succ _,I.tok _,⟨_,rfl⟩,q⟩
noncomputable def J3e (K:PySem.W.Frag):R2:=fun x y H Q=>∃p xs i v,x= .ref p/\y= .int i/\SqL K H p xs/\0<=i/\atI xs i=some v/\Q v H
theorem G3n(ha:PX X a ta)(hb:PX X b tb)(hs:B6g b):PX X (.Subscript a b pos) (tOp (J3e X.K) ta tb):=by
 intro pins s σ H Q I h
 refine Subscript_ (thn (ha pins s σ H _ I h) fun v s1 ⟨k1,x,H1,e1,l1,I1,r1,q1⟩=>thn (hb pins s1 σ H1 _ I1 q1) fun u s2 hh_=>?_)
 obtain⟨k2,y,H2,e2,l2,I2,r2,q2⟩:=hh_
 subst e1
 subst e2
 obtain⟨p,xs,i,z,rfl,rfl,hq,h0,he,q⟩:=q2
 cases r1
 obtain⟨t,rfl⟩:=r2
 obtain⟨its,r,pl,hz⟩:=I2.list hq
 obtain⟨j,h1,h2,h3,h4,h5⟩:=A7t he
 obtain⟨w,ew,rw'⟩:=r.get h2
 have hl:=r.length
 have hn:=A6j
 have hj:i.toNat=j:=by
   rw[seqIndex_of h0 h5] at h1
   exact Option.some.inj h1
 exact item_listR pl.isList h0 (by omega) (by rw[hj];simpa using ew) ⟨k2,z,H2,rfl,Nat.le_trans l1 l2,I2,rw',q⟩ (hs _ _)
noncomputable def C8p (n k:Nat) (u:Value):Prop:=∃z v,u=Value.str z v/\n<=v/\v<k
theorem C8p.mono{n k n' k':Nat}{u:Value}(h:C8p n k u)(h1:n'<=n)(h2:k<=k'):C8p n' k' u:=by
 obtain⟨z,v,e,a,b⟩:=h
 exact⟨z,v,e,Nat.le_trans h1 a,Nat.lt_of_lt_of_le b h2⟩
noncomputable def PXF (X:Cx) (e:Expr) (t:TE):Prop:=∀(pins:List (Addr×Obj)) (s:Shared) (σ:St) (H:Hp) (Q:VK),Inv X pins σ H s ->t σ H Q ->
 wpAny (model X.prog X.w) X.A (eval e X.env) (fun v s'=>∃k x H',s'={s with toks:=k}/\s.toks<=k/\Inv X pins σ H' s'/\U4 x v/\C8p s.toks k v/\Q x H') X.xe s
theorem G9{z j pos}:PXF X (.Constant (.str z) j pos) (tC (.str z)):=fun _ s _ H _ I h=>Calls.Constant_str ⟨_,.str z,H,rfl,Nat.le_succ _,I.tok _,⟨_,rfl⟩,⟨_,_,rfl,Nat.le_refl _,Nat.lt_succ_self _⟩,h⟩
theorem C7x{z:Str}{n:Int}{j1 j2:Nat}(hz:z.length=1)(h1:1<n)(h2:n<1000):PXF X (.BinOp (.Constant (.str z) j1 p1) .Mult (.Constant (.int n) j2 p2) pos) (tC (.str (A0j z n))):=by
 intro pins s σ H Q I q
 refine wpAny_BinOp (Calls.Constant_str (wpAny_Constant_int ?_))
 have lo:¬n< -(2^63:Int):=by omega
 have hi:¬n>=(2^63:Int):=by omega
 have hl:=C0k z n
 have hs:(A0j z n).length<=sizeLine:=B8 (by rw[hl,hz];omega)
 have zl:z.length*n.toNat<=sizeLine:=B8 (by rw[hz];omega)
 have n0:¬n<1:=by omega
 have n1:¬(n==1||z.length==0)=true:=by rw[hz];simp;omega
 refine PySem.P.mul_str (by rw[decide_eq_false lo,decide_eq_false hi];rfl) (fun _ _=>?_) (fun _ _=>B1a zl) ?_
 . intro g
   have:(z.length:Int)<=(2^63-1)/n:=(Int.le_ediv_iff_mul_le (by omega)).mpr (by rw[hz];omega)
   omega
 unfold A0j at q hs
 rw[if_neg n0,if_neg n1] at q hs
 rw[if_neg n0,if_neg n1]
 exact⟨hs,_,.str _,H,rfl,by show s.toks<=s.toks+1+1+1;omega,(I.tok _),⟨_,rfl⟩,⟨_,_,rfl,by show s.toks<=s.toks+1+1;omega,Nat.lt_succ_self _⟩,q⟩
noncomputable def PAX (X:Cx) (es:List Expr) (t:TA):Prop:=∀(pos:Pos) (pins:List (Addr×Obj)) (s:Shared) (σ:St) (H:Hp) (Q:List V ->Hp ->Prop),Inv X pins σ H s ->t σ H Q ->
 wpAny (model X.prog X.w) X.A (spliced (backTo pos (starEach es X.env))) (fun us s'=>∃k xs H',s'={s with toks:=k}/\s.toks<=k/\Inv X pins σ H' s'/\J0 xs us/\(∀u∈us,C8p s.toks k u)/\Q xs H') X.xe s
theorem B0t:PAX X [] B3m:=fun pos pins s σ H Q I h=>Calls.spliced_nil ⟨s.toks,[],H,rfl,Nat.le_refl _,I,.nil,(fun _ q=>nomatch q),h⟩
theorem D8(he:PXF X e te)(hr:PAX X es t)(hs:starEach (e::es) X.env=(false,eval e X.env)::starEach es X.env:=by rfl):PAX X (e::es) (A8a te t):=by
 intro pos pins s σ H Q I h
 rw[hs]
 show wpAny _ _ (spliced ((false,eval e X.env)::backTo pos (starEach es X.env))) _ _ s
 refine Calls.spliced_cons (thn (he pins s σ H _ I h) fun u s1 hh_=>?_)
 obtain⟨k1,x,H1,e1,l1,I1,r1,n1,q1⟩:=hh_
 refine thn (hr pos pins s1 σ H1 _ I1 q1) fun us s2 hh_=>?_
 obtain⟨k2,xs,H2,e2,l2,I2,r2,n2,q2⟩:=hh_
 subst e1
 subst e2
 refine⟨k2,x::xs,H2,rfl,Nat.le_trans l1 l2,I2,.cons r1 r2,fun u hu=>?_,q2⟩
 rcases List.mem_cons.mp hu with rfl|hu
 . exact n1.mono (Nat.le_refl _) l2
 exact(n2 u hu).mono l1 (Nat.le_refl _)
noncomputable def Tk (X:Cx) (x:Str) (s:Shared):Prop:=∃m z v,s.heap.Ns X.env.locals m/\m x=some (Value.str z v)/\v≠0/\v<s.toks
noncomputable def PEK (X:Cx) (x:Str) (e:Expr) (t:TE):Prop:=∀(pins:List (Addr×Obj)) (s:Shared) (σ:St) (H:Hp) (Q:VK),Tk X x s ->Inv X pins σ H s ->t σ H Q ->wpAny (model X.prog X.w) X.A (eval e X.env) (EP X pins σ Q) X.xe s
noncomputable def PSK (X:Cx) (x:Str) (st:Stmt) (t:TS):Prop:=∀(pins:List (Addr×Obj)) (s:Shared) (σ:St) (H:Hp) (D:A9r),Tk X x s ->Inv X pins σ H s ->t D σ H ->wpAny (model X.prog X.w) X.A (exec st X.env) (SP X pins D) X.xe s
noncomputable def C8z (X:Cx) (x:Str) (st:List Stmt) (t:TS):Prop:=∀(pins:List (Addr×Obj)) (s:Shared) (σ:St) (H:Hp) (D:A9r),Tk X x s ->Inv X pins σ H s ->t D σ H ->wpAny (model X.prog X.w) X.A (execs st X.env) (SP X pins D) X.xe s
variable{x' y:Str}{i:Nat}{rest:List Stmt}{u:TS}{ts:TS}{pos':Pos}
theorem B3y(hN:X.N.Nodup)(hi:X.N[i]?=some x)(hx:X.env.scope.names.lookup x=some .local)(ha:PAX X es t)(hb:PX X ix tix)(hp:B6g ix)(h2:C8z X x rest u)
   (hs:swapsWith (.Subscript (.List es p1) ix p2) (some (.Name x pos')) pos.line X.env=pure false:=by rfl):
   G2c X (.Assign [.Name x pos'] (.Subscript (.List es p1) ix p2) pos::rest) (C6e (C3s (D0j (tOp (J3e X.K) (G5k t) tix) (B1q i))) u):=by
 intro pins s σ H D h0 I h
 obtain⟨J,h,kk⟩:=h
 refine wpAny_execs_cons (wpAny_Assign_Name (Subscript_ (wpAny_List_spliced (thn (ha p1 pins s σ H _ I h) fun us s1 ⟨k1,xs,H1,e1,l1,I1,r1,n1,z,q1⟩=>⟨by rw[<-r1.length];exact z,?_⟩))) hs)
 subst e1
 have hf:H1 s.heap.objs.size=none:=I1.hok.fresh (Nat.le_refl _)
 have I2:=I1.laid (a:=s.heap.objs.size) (o:= .lst xs) (t':=k1) (h':=s.heap.push {cls:= .type "list",data:= .seq us.toArray}) (fun b u e=>Heap.get?_push_of_some _ e) (Nat.le_refl _) ⟨z,us,0,r1,Heap.get?_push_size _ rfl⟩
 refine thn (hb pins _ σ _ _ I2 (q1 _ hf)) fun v s3 hh_=>?_
 obtain⟨k3,y,H3,e3,l3,I3,r3,q3⟩:=hh_
 subst e3
 obtain⟨p,xs',j,w,ep,rfl,hq,hj0,he,q⟩:=q3
 obtain rfl:s.heap.objs.size=p:=V.ref.inj ep
 obtain⟨tk,rfl⟩:=r3
 obtain⟨its,r,pl,hz⟩:=I3.list hq
 obtain⟨n,b1,b2,b3,b4,b5⟩:=A7t he
 obtain⟨w',ew,rw'⟩:=r.get b2
 have hl:=r.length
 have hn:=A6j
 have hj:j.toNat=n:=by
   rw[seqIndex_of hj0 b5] at b1
   exact Option.some.inj b1
 have same:its=us:=by
   obtain⟨o,eo,_,nn,ed⟩:=pl.isList
   have e2:(s.heap.push {cls:= .type "list",data:= .seq us.toArray}).get? s.heap.objs.size=some {cls:= .type "list",data:= .seq us.toArray}:=Heap.get?_push_size _ rfl
   have e3:some o=some {cls:= .type "list",data:= .seq us.toArray}:=eo.symm.trans e2
   obtain rfl:=Option.some.inj e3
   injection ed with ed _
   have:=congrArg Array.toList ed
   simpa using this.symm
 subst same
 refine item_listR pl.isList hj0 (by omega) (by rw[hj];simpa using ew) ?_ (hp _ _)
 have new:C8p s.toks k1 w':=n1 w' (List.mem_of_getElem? ew)
 obtain⟨z',v',rfl,v1,v2⟩:=new
 refine wpAny_mono (wpAny_toks_of (n:=k3) (Nat.le_refl _) (B3w (Q:=fun _ s'=>Inv X pins (σ.set i (some w)) H3 s'/\∃m,s'.heap.Ns X.env.locals m/\m x=some (.str z' v')) I3 hN hi (.inl hx) rw' (fun s' I' g=>⟨I',?_⟩) (.inr hx))) (fun _ s' z=>?_) (fun _ _ z=>z.2)
 . obtain⟨m,_,g⟩:=g hx
   exact⟨_,g,if_pos rfl⟩
 obtain⟨lt,I',m,g,gx⟩:=z
 exact h2 pins s' _ H3 D ⟨m,z',v',g,gx,Nat.ne_of_gt (Nat.lt_of_lt_of_le h0 v1),Nat.lt_of_lt_of_le v2 (Nat.le_trans l3 lt)⟩ I' (kk _ _ q)
theorem B4f(hN:X.N.Nodup)(hi:X.N[i]?=some y)(hy:X.env.scope.names.lookup y=some .local)(hne:x≠y)(ha:PAX X es t)(h2:C8z X x rest u)
   (hs:swapsWith (.List es p1) (some (.Name y pos')) pos.line X.env=pure false:=by rfl):
   C8z X x (.Assign [.Name y pos'] (.List es p1) pos::rest) (C6e (C3s (D0j (G5k t) (B1q i))) u):=by
 intro pins s σ H D tk I h
 obtain⟨J,h,kk⟩:=h
 refine wpAny_execs_cons (wpAny_Assign_Name (wpAny_List_spliced (thn (ha p1 pins s σ H _ I h) fun us s1 ⟨k1,xs,H1,e1,l1,I1,r1,n1,z,q1⟩=>⟨by rw[<-r1.length];exact z,?_⟩)) hs)
 subst e1
 have hf:H1 s.heap.objs.size=none:=I1.hok.fresh (Nat.le_refl _)
 have I2:=I1.laid (a:=s.heap.objs.size) (o:= .lst xs) (t':=k1) (h':=s.heap.push {cls:= .type "list",data:= .seq us.toArray}) (fun b u e=>Heap.get?_push_of_some _ e) (Nat.le_refl _) ⟨z,us,0,r1,Heap.get?_push_size _ rfl⟩
 obtain⟨m0,z0,v0,g0,gx0,nz,lt0⟩:=tk
 have g1:=g0.push {cls:= .type "list",data:= .seq us.toArray}
 refine wpAny_mono (wpAny_toks_of (n:=k1) (Nat.le_refl _) (B3w (Q:=fun _ s'=>Inv X pins (σ.set i (some (.ref s.heap.objs.size))) _ s'/\∃m,s'.heap.Ns X.env.locals m/\m x=some (.str z0 v0)) I2 hN hi (.inl hy) (show U4 (.ref s.heap.objs.size) _ from rfl) (fun s' I' g=>⟨I',?_⟩) (.inr hy))) (fun _ s' z=>?_) (fun _ _ z=>z.2)
 . obtain⟨m,gm,g⟩:=g hy
   exact⟨_,g,(if_neg hne).trans ((gm.agree g1 x).trans gx0)⟩
 obtain⟨lt,I',m,g,gx⟩:=z
 exact h2 pins s' _ _ D ⟨m,z0,v0,g,gx,nz,Nat.lt_of_lt_of_le lt0 (Nat.le_trans l1 lt)⟩ I' (kk _ _ (q1 _ hf))
theorem B4g(h1:PSK X x st ts)(h2:PSs X rest u):C8z X x (st::rest) (C6e ts u):=by
 intro pins s σ H D tk I h
 refine wpAny_execs_cons (thn (h1 pins s σ H {D with nx:=u D} tk I h) fun f s1 q=>?_)
 cases f with
 | next=>
   obtain⟨σ',H',I',q⟩:=q
   exact h2 pins s1 σ' H' D I' q
 |ret v=>exact q
 |brk=>exact q
 |cont=>exact q
theorem G2v(he:PEK X x e te):PSK X x (.Return (some e) pos) (J4a te):=by
 intro pins s σ H D tk I h
 exact wpAny_Return_some (thn (he pins s σ H _ tk I h) fun v s1 ⟨x,H1,I1,r1,q1⟩=>⟨x,σ,H1,I1,r1,q1⟩)
theorem G1z(hN:X.N.Nodup)(hi:X.N[i]?=some y)(hy:X.env.scope.names.lookup y=some .local)(he:PEK X x e te)(hs:swapsWith e (some (.Name y pos')) pos.line X.env=pure false:=by rfl):PSK X x (.Assign [.Name y pos'] e pos) (C3s (D0j te (B1q i))):=by
 intro pins s σ H D tk I h
 obtain⟨J,h,kk⟩:=h
 refine wpAny_Assign_Name (thn (he pins s σ H _ tk I h) fun v s1 hh_=>?_) hs
 obtain⟨y,H1,I1,r1,q1⟩:=hh_
 exact A2r I1 hN hi (.inl hy) r1 (fun s2 I2=>⟨_,H1,I2,kk _ _ q1⟩) (.inr hy)
theorem D9m{x1}(he:PEK X x e te)(hr:PA X es t)(hs:starEach (e::es) X.env=(false,eval e X.env)::starEach es X.env:=by rfl):PEK X x (.Tuple (e::es) x1 pos) (G4n (A8a te t)):=by
 intro pins s σ H Q tk I hq
 refine wpAny_Tuple_spliced ?_
 rw[hs]
 show wpAny _ _ (spliced ((false,eval e X.env)::backTo pos (starEach es X.env))) _ _ s
 refine Calls.spliced_cons (thn (he pins s σ H _ tk I hq) fun v s0 hh_=>?_)
 obtain⟨y,H0,I0,r0,q0⟩:=hh_
 refine thn (hr pos pins s0 σ H0 _ I0 q0) fun us s1 ⟨xs,H1,I1,r,z,q⟩=>⟨by rw[List.length_cons, <-r.length];exact z,?_⟩
 have hf:H1 s1.heap.objs.size=none:=I1.hok.fresh (Nat.le_refl _)
 refine⟨.ref s1.heap.objs.size,upd H1 s1.heap.objs.size (.tup (y::xs)),I1.laid (t':=s1.toks) (fun b u e=>Heap.get?_push_of_some _ e) (Nat.le_refl _) ?_,rfl,q _ hf⟩
 exact⟨z,v::us,.cons r0 r,⟨_,Heap.get?_push_size _ rfl,rfl,_,rfl⟩⟩
noncomputable def G4v (y:Str) (i:Nat) (to:TE):TE:=fun σ H Q=>to σ H fun w H1=>∃w' z:Str,w= .str w'/\σ[i]?=some (some (.str z))/\(y==z)=false/\w'.length+(w'.length+1)*z.length<=16777216/\Q (.str (Txt.replace w' y z)) H1
theorem A9x{o:Expr}{to:TE}{k1:Nat}{apos cpos:Pos}(ho:PX X o to)(hN:X.N[i]?=some x)(hx:X.env.scope.names.lookup x=some .local)(hd:(x==("__debug__":Str))=false:=by decide)
   (hbase:attributeBase o "replace" X.env (eval o X.env)=eval o X.env:=by rfl)
   (hfew:((backTo cpos (starEach [.Constant (.str y) k1 p1,.Name x p2] X.env)).all (fun x=> !x.1)&&(backToKw cpos (keywordEach [] X.env)).all (fun x=>x.1.isSome)
     &&decide (([.Constant (.str y) k1 p1,.Name x p2]:List Expr).length+([]:List Keyword).length+(if([]:List Keyword).isEmpty then 0 else 1)<30))=true:=by rfl)
   (hline:(apos.endLine==cpos.line)=true:=by rfl)
   (hs:backTo cpos (starEach [.Constant (.str y) k1 p1,.Name x p2] X.env)=[(false,eval (.Constant (.str y) k1 p1) X.env),(false,eval (.Name x p2) X.env)]:=by rfl):
   PEK X x (.Call (.Attribute o "replace" apos) [.Constant (.str y) k1 p1,.Name x p2] [] cpos) (G4v y i to):=by
 intro pins s σ H Q tk I h
 refine wpAny_Call_method_late hbase hfew hline hs (thn (ho pins s σ H _ I h) fun v s1 hh_=>?_)
 obtain⟨kk,xv,H1,e1,l1,I1,r1,w,z,hw,hz,hyz,hl,q1⟩:=hh_
 subst e1
 subst hw
 obtain⟨h1,h2⟩:=C2r (T:="str") I1 r1 rfl
 obtain⟨tw,rfl⟩:=(show∃t,v=Value.str w t from r1)
 refine⟨"str","str.replace",PySem.F.plainAttrs_str,PySem.F.slot_str_replace,PySem.F.type_str_replace,h1,h2,?_⟩
 refine Calls.callWith_builtin rfl (Calls.evalArgs_plain ?_)
 refine Calls.spliced_cons (Calls.Constant_str (Calls.spliced_cons ?_))
 obtain⟨m0,z0,v0,g0,gx0,nz,lt0⟩:=tk
 have I2:=I1.tok (kk+1)
 have hk:X.env.kindOf x=some .local:=hx
 obtain⟨m,hn,hlo⟩:=I2.loc
 obtain⟨u,r,l⟩:=hlo i x _ hN hz (.inl hx)
 have em:m x=some (.str z0 v0):=(hn.agree g0 x).trans gx0
 have eu:u= .str z0 v0:=by
   rcases l with⟨_,hm⟩|⟨q,_⟩
   . rw[em] at hm
     exact(Option.some.inj hm).symm
   . rw[hk] at q
     rcases q with q|q<;>cases q
 subst eu
 obtain⟨t',et⟩:=(show∃t,Value.str z0 v0=Value.str z t from r)
 injection et with ez _
 subst ez
 refine wpAny_Name (wpAny_loadName_local I.ok.kind hk hn em (Calls.spliced_nil ?_)) hd
 have lt1:v0<kk:=Nat.lt_of_lt_of_le lt0 l1
 exact SC.replace (Nat.ne_of_gt (Nat.lt_of_le_of_lt (Nat.zero_le _) lt1)) nz (Nat.ne_of_gt lt1) hyz hl fun t' k=>⟨.str _,H1,I1.tok _,⟨_,rfl⟩,q1⟩
end
end L2
namespace TR
open PySem L2 PySem.W PyProof.Rows
seal PE PS PSs PA PT PW PG PI PO
noncomputable def J3y:Ref ->Str
 | .noline=>"no line"
 | .notext=>"no number"
 | .nocount=>"no count"
 | .badctx=>"bad context"
noncomputable def C1w (nm:Str) (ws:List Str):Option Str:=
 if nm="room"/\ws.length=1 then(match A2m (ws.getD 0 "") with|none=>some "no count"|some n=>if 1<=n/\n<=24 then none else some "bad context")
 else if nm="way"/\(ws.length=1\/ws.length=2) then(match A2t (Txt.join " " ws) with|none=>some "bad context"|some _=>none)
 else if nm="bounds"/\ws.length=2 then(match A2m (ws.getD 0 "") with|none=>some "no count"|some a=>match A2m (ws.getD 1 "") with|none=>some "no count"|some b=>if(-60<=a/\a<=0)/\0<=b/\b<=60 then none else some "bad context")
 else some "no line"
noncomputable def G4p (ws:List Str):Option Str:=if ws.contains ""=true then some "no line"
 else if(["room","way","bounds"]:List Str).contains (ws.getD 0 "")=true then C1w (ws.getD 0 "") (ws.drop 1)
 else if(["trap","flags","clear"]:List Str).contains (ws.getD 0 "")=true then(if ws.getD 0 ""="trap" then(if(ws.drop 1).all A1j.contains=true then none else some "bad context") else if ws.drop 1≠ [] then some "no line" else none)
 else if(["power","scaled"]:List Str).contains (ws.getD 0 "")=true then(G2f (ws.getD 0 "") (ws.drop 1)).map J3y
 else match C3b ws with
   |some (.ref r)=>some (J3y r)
   |_=>none
noncomputable def G4m (s:DSt):Chg ->Option (Str×DSt)
 | .noline=>some ("no line",s)
 | .nocount=>some ("no count",s)
 | .bad=>some ("bad context",s)
 | .ok v'=>some ("done",⟨v',s.xs,s.ys⟩)
theorem G0w{s:DSt}{nm a:Str}{ws:List Str}(h:C1w nm ws=some a):G4m s (A3k s.v nm ws)=some (a,s):=by
 unfold C1w at h
 unfold A3k
 by_cases h1:nm="room"/\ws.length=1
 . rw[if_pos h1] at h ⊢
   cases hc:A2m (ws.getD 0 "") with
   |none=>rw[hc] at h;cases h;rfl
   | some n=>
     rw[hc] at h
     by_cases q:1<=n/\n<=24
     . simp only[if_pos q] at h;cases h
     . simp only[if_neg q] at h
       cases h
       show G4m s (if(1<=n/\n<=24)/\_ then _ else _)=_
       rw[if_neg (fun z=>q z.1)]
       rfl
 rw[if_neg h1] at h ⊢
 by_cases h2:nm="way"/\(ws.length=1\/ws.length=2)
 . rw[if_pos h2] at h ⊢
   cases hc:A2t (Txt.join " " ws) with
   |none=>rw[hc] at h;cases h;rfl
   |some y=>rw[hc] at h;cases h
 rw[if_neg h2] at h ⊢
 by_cases h3:nm="bounds"/\ws.length=2
 . rw[if_pos h3] at h ⊢
   cases hc:A2m (ws.getD 0 "") with
   |none=>rw[hc] at h;cases h;rfl
   | some n=>
     rw[hc] at h
     cases hd:A2m (ws.getD 1 "") with
     |none=>rw[hd] at h;cases h;rfl
     | some m=>
       rw[hd] at h
       by_cases q:(-60<=n/\n<=0)/\0<=m/\m<=60
       . simp only[if_pos q] at h;cases h
       . simp only[if_neg q] at h
         cases h
         show G4m s (if _/\(-60<=n/\n<=0)/\0<=m/\m<=60 then _ else _)=_
         rw[if_neg (fun z=>q z.2)]
         rfl
 rw[if_neg h3] at h ⊢
 cases h
 rfl
theorem G2s{s:DSt}{ws:List Str}{a:Str}(h:G4p ws=some a):B0k s ws=some (a,s):=by
 unfold G4p at h
 unfold B0k
 by_cases h0:ws.contains ""=true
 . rw[if_pos h0] at h ⊢
   cases h
   rfl
 rw[if_neg h0] at h ⊢
 unfold B7z
 by_cases h1:(["room","way","bounds"]:List Str).contains (ws.getD 0 "")=true
 . rw[if_pos h1] at h ⊢
   have:=G0w (s:=s) h
   revert this
   cases A3k s.v (ws.getD 0 "") (ws.drop 1)<;>exact fun z=>z
 rw[if_neg h1] at h ⊢
 by_cases h2:(["trap","flags","clear"]:List Str).contains (ws.getD 0 "")=true
 . rw[if_pos h2] at h ⊢
   unfold D4d
   by_cases h3:ws.getD 0 ""="trap"
   . rw[if_pos h3] at h ⊢
     by_cases h4:(ws.drop 1).all A1j.contains=true
     . rw[if_pos h4] at h;cases h
     . rw[if_neg h4] at h ⊢
       cases h
       rfl
   . rw[if_neg h3] at h ⊢
     by_cases h4:ws.drop 1≠ []
     . rw[if_pos h4] at h ⊢
       cases h
       rfl
     . rw[if_neg h4] at h;cases h
 rw[if_neg h2] at h ⊢
 by_cases h3:(["power","scaled"]:List Str).contains (ws.getD 0 "")=true
 . rw[if_pos h3] at h ⊢
   obtain⟨r,hr,rfl⟩:=Option.map_eq_some_iff.mp h
   rw[hr]
   cases r<;>rfl
 rw[if_neg h3] at h ⊢
 cases hr:C3b ws with
 |none=>rw[hr] at h;cases h
 | some q=>
   rw[hr] at h
   cases q with
   |ref r=>cases h;cases r<;>rfl
   |op nm x1 x2=>cases h
noncomputable def C2s (z:Str):Bool:=decide (z.length<=900)&&(!(Txt.split z " ").isEmpty&&(decide ((Txt.split z " ").length<=100)&&((Txt.split z " ").all PyData.strOk&&decide (((Txt.split z " ").map (·.length)).sum+(Txt.split z " ").length<=900))))
theorem D2n{z:Str}(h:C2s z=true):z.length<=900/\Fit (Txt.split z " "):=by
 unfold C2s at h
 simp only[Bool.and_eq_true,decide_eq_true_eq,List.all_eq_true,Bool.not_eq_true',List.isEmpty_eq_false_iff] at h
 exact⟨h.1,h.2.1,⟨h.2.2.1,fun y hy=>h.2.2.2.1 y hy⟩,h.2.2.2.2⟩
noncomputable def V5 (z a:Str):Bool:=(C2s z&&decide (G4p (Txt.split z " ")=some a))&&PyData.strOk a
noncomputable def Pl (prs:List (Str×Str)) (s:DSt):Prop:=∃st:Nat ->DSt,st 0=st0/\st prs.length=s/\∀i pr,prs[i]?=some pr ->C2s pr.1=true/\(st i).Ok/\B0k (st i) (Txt.split pr.1 " ")=some (pr.2,st (i+1))
theorem Pl.nil:Pl [] st0:=⟨fun _=>st0,rfl,rfl,fun i pr h=>by simp at h⟩
theorem Pl.snoc{prs:List (Str×Str)}{s s':DSt}{z a:Str}(h:Pl prs s)(ok:s.Ok)(f:C2s z=true)(e:B0k s (Txt.split z " ")=some (a,s')):Pl (prs++ [(z,a)]) s':=by
 obtain⟨st,h0,hl,g⟩:=h
 refine⟨fun i=>if i<=prs.length then st i else s',(if_pos (Nat.zero_le _)).trans h0,if_neg (by rw[List.length_append];show¬prs.length+1<=prs.length;omega),fun i pr hp=>?_⟩
 by_cases hi:i<prs.length
 . rw[List.getElem?_append_left hi] at hp
   have:=g i pr hp
   simp only[if_pos (Nat.le_of_lt hi),if_pos (show i+1<=prs.length by omega)]
   exact this
 rw[List.getElem?_append_right (by omega)] at hp
 have ei:i=prs.length:=by
   have:=(List.getElem?_eq_some_iff.mp hp).1
   simp at this
   omega
 subst ei
 simp at hp
 subst hp
 simp only[if_pos (Nat.le_refl _),if_neg (show¬prs.length+1<=prs.length by omega),hl]
 exact⟨f,ok,e⟩
theorem Pl.wrong{prs:List (Str×Str)}{s:DSt}{z a:Str}(h:Pl prs s)(ok:s.Ok)(w:V5 z a=true):Pl (prs++ [(z,a)]) s:=by
 unfold V5 at w
 rw[Bool.and_eq_true,Bool.and_eq_true,decide_eq_true_eq] at w
 exact h.snoc ok w.1.1 (G2s w.1.2)
theorem Pl.runs{prs:List (Str×Str)}{s:DSt}(h:Pl prs s)(hn:prs.length<=900):∃st,J4u (prs.map (·.1)) (prs.map (·.2)) st:=by
 obtain⟨st,h0,_,g⟩:=h
 refine⟨st,h0,by simp,by simpa using hn,fun i z hz=>?_⟩
 rw[List.getElem?_map] at hz
 obtain⟨pr,hp,rfl⟩:=Option.map_eq_some_iff.mp hz
 obtain⟨f,ok,e⟩:=g i pr hp
 exact⟨pr.2,by rw[List.getElem?_map,hp];rfl,(D2n f).1,(D2n f).2,ok,e⟩
deriving instance DecidableEq for Cv
deriving instance DecidableEq for DSt
noncomputable instance (s:DSt):Decidable s.Ok:=decidable_of_iff (((1<=s.v.r/\s.v.r<=24)/\(-60<=s.v.l/\s.v.l<=0)/\0<=s.v.m/\s.v.m<=60)/\Z2 s.xs=s.xs/\Z2 s.ys=s.ys) ⟨fun h=>⟨⟨h.1.1.1,h.1.1.2,h.1.2.1.1,h.1.2.1.2,h.1.2.2.1,h.1.2.2.2⟩,h.2.1,h.2.2⟩,fun h=>⟨⟨⟨h.v.r1,h.v.r2⟩,⟨h.v.l1,h.v.l2⟩,h.v.m1,h.v.m2⟩,h.x,h.y⟩⟩
noncomputable def B5d:List (Str×Str):=[("plus 1 2","3"),("over 1 0","end"),("flags","split"),("trap off","done"),("over 1 3","trapped off"),("flags","split off cut"),("clear","done"),("room 3","done"),("way up","done"),("trap","done"),("over 2 3","0.667"),("bounds -2 1","done"),("plus 99 1","end"),("flags","burst off cut")]
noncomputable def C1x:List (Str×Str) ->DSt ->List DSt
 | [],s=>[s]
 |p::r,s=>s::C1x r (match B0k s (Txt.split p.1 " ") with|some q=>q.2|none=>s)
noncomputable def B9h:List (Str×Str) ->DSt ->Bool
 | [],s=>decide s.Ok
 |p::r,s=>decide s.Ok&&(C2s p.1&&(match B0k s (Txt.split p.1 " ") with|some q=>decide (q.1=p.2)&&B9h r q.2|none=>false))
theorem B9u:B9h B5d st0=true:=by decide+kernel
noncomputable def gst (k:Nat):DSt:=(C1x B5d st0).getD k st0
theorem C0z:∀{l:List (Str×Str)} {s:DSt},B9h l s=true ->∀(k:Nat) (pr:Str×Str),l[k]?=some pr ->((C1x l s).getD k st0).Ok/\C2s pr.1=true/\B0k ((C1x l s).getD k st0) (Txt.split pr.1 " ")=some (pr.2,(C1x l s).getD (k+1) st0)
 | [],_,_,k,pr,e=>by simp at e
 | p ::r,s,h,k,pr,e=>by
   unfold B9h at h
   rw[Bool.and_eq_true,Bool.and_eq_true,decide_eq_true_eq] at h
   obtain⟨ok,f,h⟩:=h
   unfold C1x
   cases ha:B0k s (Txt.split p.1 " ") with
   |none=>rw[ha] at h;cases h
   | some q=>
     rw[ha] at h
     have h:(decide (q.1=p.2)&&B9h r q.2)=true:=h
     rw[Bool.and_eq_true,decide_eq_true_eq] at h
     cases k with
     | zero=>
       obtain rfl:p=pr:=by simpa using e
       refine⟨ok,f,?_⟩
       show B0k s (Txt.split p.1 " ")=some (p.2,(C1x r q.2).getD 0 st0)
       rw[ha, <-h.1]
       cases r<;>rfl
     |succ k=>exact C0z h.2 k pr (by simpa using e)
theorem Pl.good{prs:List (Str×Str)}{k:Nat}{pr:Str×Str}(h:Pl prs (gst k))(e:B5d[k]?=some pr):Pl (prs++ [pr]) (gst (k+1)):=by
 obtain⟨a,b,c⟩:=C0z B9u k pr e
 exact h.snoc a b c
theorem G5p{k:Nat}(h:k<14):(gst k).Ok:=(C0z B9u k B5d[k] (List.getElem?_eq_getElem h)).1
end TR
namespace TR
open PySem L2 PySem.W PyProof.Rows
seal PE PS PSs PA PT PW PG PI PO
seal PX PXF PAX PEK PSK C8z G2c
noncomputable abbrev A5n:Stmt:=(top 137)
noncomputable abbrev A7p:Stmt:=(top 138)
noncomputable abbrev A7w:Stmt:=(top 139)
noncomputable abbrev B1c:Stmt:=(top 140)
noncomputable abbrev A8j:Stmt:=(top 141)
noncomputable def nl0:List Str:=["plus 1","plus 1 2 3","plus 1  2"," plus 1 2","plus 1 2 ","Plus 1 2","plus",""," ","whole 7 2"]
noncomputable def nl1:List Str:=["over whole 7 2","same 1 2","next 1","next Up 1","fused 1 2","root","root 4 4","power 2"]
noncomputable def nl2:List Str:=["scaled 2","flags up","clear all","room","room 5 5","bounds 5"]
noncomputable def nl3:List Str:=["bounds 0 1 2","way","way half up now","compare 1","compare 1 2 3"]
noncomputable def nl4:List Str:=["x","plus\t1 2","wholeover 7 2","to whole","trimmed 1 2","1 plus 2"]
noncomputable def nl5:List Str:=["trap ","trap off ","trap  off","way ","flags ","whole over 7","rest 1","rest 1 2 3"]
noncomputable def nl6:List Str:=["same power 1","lesser 1","greater 1 2 3","next down","power 2 2 2","fused 1 2 3 4"]
noncomputable def nlA:List Str:=((((((nl0++nl1)++nl2)++nl3)++nl4)++nl5)++nl6)
theorem G7h:(nl0.all fun z=>V5 z "no line")=true:=by decide+kernel
theorem G4r:(nl1.all fun z=>V5 z "no line")=true:=by decide+kernel
theorem G8c:(nl2.all fun z=>V5 z "no line")=true:=by decide+kernel
theorem G7b:(nl3.all fun z=>V5 z "no line")=true:=by decide+kernel
theorem G7y:(nl4.all fun z=>V5 z "no line")=true:=by decide+kernel
theorem G6d:(nl5.all fun z=>V5 z "no line")=true:=by decide+kernel
theorem G5a:(nl6.all fun z=>V5 z "no line")=true:=by decide+kernel
theorem J2a:(nlA.all fun z=>V5 z "no line")=true:=by unfold nlA;simp only[List.all_append,G7h,G4r,G8c,G7b,G7y,G6d,G5a];rfl
noncomputable def by0:List (Str×Str):=[("power 2 21","no count"),("power 2 -21","no count"),("scaled 2 101","no count")]
noncomputable def by1:List (Str×Str):=[("room 25","bad context"),("scaled 2 -101","no count"),("room 0","bad context")]
noncomputable def by2:List (Str×Str):=[("bounds 1 5","bad context"),("scaled 2 -1000","no count"),("room 1000","bad context")]
noncomputable def by3:List (Str×Str):=[("power 2 999","no count"),("bounds -1000 5","bad context"),("room -0","bad context")]
noncomputable def by4:List (Str×Str):=[("bounds -61 5","bad context"),("bounds 0 -1","bad context"),("bounds -5 61","bad context")]
noncomputable def by5:List (Str×Str):=[("way half","bad context"),("way Down","bad context"),("way down up","bad context")]
noncomputable def by6:List (Str×Str):=[("trap off of","bad context"),("trap Off","bad context"),("room -3","bad context")]
noncomputable def by7:List (Str×Str):=[("power none 21","no count"),("power x 21","no number"),("way five","bad context")]
noncomputable def byA:List (Str×Str):=(((((((by0++by1)++by2)++by3)++by4)++by5)++by6)++by7)
theorem G5t:(by0.all fun p=>V5 p.1 p.2)=true:=by decide+kernel
theorem G4k:(by1.all fun p=>V5 p.1 p.2)=true:=by decide+kernel
theorem G4g:(by2.all fun p=>V5 p.1 p.2)=true:=by decide+kernel
theorem G6v:(by3.all fun p=>V5 p.1 p.2)=true:=by decide+kernel
theorem G4q:(by4.all fun p=>V5 p.1 p.2)=true:=by decide+kernel
theorem G8d:(by5.all fun p=>V5 p.1 p.2)=true:=by decide+kernel
theorem G4h:(by6.all fun p=>V5 p.1 p.2)=true:=by decide+kernel
theorem G8n:(by7.all fun p=>V5 p.1 p.2)=true:=by decide+kernel
theorem J1g:(byA.all fun p=>V5 p.1 p.2)=true:=by unfold byA;simp only[List.all_append,G5t,G4k,G4g,G6v,G4q,G8d,G4h,G8n];rfl
noncomputable def nnB:List Str:=["1.2.3","e5","1e","--1","1_0","0x1","ends","1e1000","+none",A0j "1" 61,".","1e+"]
noncomputable def nnS:List Str:=["plus B 1","plus 1 B","fused 1 2 B","fused B B 3","root B","power B 2","scaled B x","compare 1 B"]
noncomputable def ncB:List Str:=["x","1.5","--1","","10000","+1","-","1e1","99999999999999999999"]
noncomputable def ncS:List Str:=["power 2 B","scaled 2 B","room B","bounds B 5","bounds -5 B","bounds B x"]
noncomputable def A9j (z:Str):Str:=if z="" then "no line" else "no count"
noncomputable def U8 (bs ws:List Str) (f:Str ->Str):Bool:=bs.all fun z=> !(("B":Str)==z)&&(ws.all fun y=>decide (y.length+(y.length+1)*z.length<=16777216)&&V5 (Txt.replace y "B" z) (f z))
theorem U3{b:Str}{bs ws:List Str}{f:Str ->Str}(h:U8 [b] ws f=true)(k:U8 bs ws f=true):U8 (b::bs) ws f=true:=by
 unfold U8 at h k ⊢
 rw[List.all_cons,k,Bool.and_true]
 rw[List.all_cons,List.all_nil,Bool.and_true] at h
 exact h
theorem A0a{b w:Str}{ws:List Str}{f:Str ->Str}(h:U8 [b] [w] f=true)(k:U8 [b] ws f=true):U8 [b] (w::ws) f=true:=by
 unfold U8 at h k ⊢
 simp only[List.all_cons,List.all_nil,Bool.and_true,Bool.and_eq_true] at h k ⊢
 exact⟨h.1,h.2,k.2⟩
theorem G7v:U8 ["1.2.3"] nnS (fun _=>"no number")=true:=by decide+kernel
theorem G7p:U8 ["e5"] nnS (fun _=>"no number")=true:=by decide+kernel
theorem G4x:U8 ["1e"] nnS (fun _=>"no number")=true:=by decide+kernel
theorem G7x:U8 ["--1"] nnS (fun _=>"no number")=true:=by decide+kernel
theorem G6y:U8 ["1_0"] nnS (fun _=>"no number")=true:=by decide+kernel
theorem G6x:U8 ["0x1"] nnS (fun _=>"no number")=true:=by decide+kernel
theorem G8m:U8 ["ends"] nnS (fun _=>"no number")=true:=by decide+kernel
theorem G6k:U8 ["1e1000"] nnS (fun _=>"no number")=true:=by decide+kernel
theorem G6m:U8 ["+none"] nnS (fun _=>"no number")=true:=by decide+kernel
theorem C9r:U8 [A0j "1" 61] ["plus B 1"] (fun _=>"no number")=true:=by decide+kernel
theorem D0z:U8 [A0j "1" 61] ["plus 1 B"] (fun _=>"no number")=true:=by decide+kernel
theorem D4c:U8 [A0j "1" 61] ["fused 1 2 B"] (fun _=>"no number")=true:=by decide+kernel
theorem D3c:U8 [A0j "1" 61] ["fused B B 3"] (fun _=>"no number")=true:=by decide+kernel
theorem D2b:U8 [A0j "1" 61] ["root B"] (fun _=>"no number")=true:=by decide+kernel
theorem D3p:U8 [A0j "1" 61] ["power B 2"] (fun _=>"no number")=true:=by decide+kernel
theorem C9k:U8 [A0j "1" 61] ["scaled B x"] (fun _=>"no number")=true:=by decide+kernel
theorem D3k:U8 [A0j "1" 61] ["compare 1 B"] (fun _=>"no number")=true:=by decide+kernel
theorem G6n:U8 [A0j "1" 61] nnS (fun _=>"no number")=true:=A0a C9r (A0a D0z (A0a D4c (A0a D3c (A0a D2b (A0a D3p (A0a C9k (A0a D3k (by decide+kernel))))))))
theorem G0n:U8 ["."] nnS (fun _=>"no number")=true:=by decide+kernel
theorem G2q:U8 ["1e+"] nnS (fun _=>"no number")=true:=by decide+kernel
theorem J2f:U8 nnB nnS (fun _=>"no number")=true:=U3 G7v (U3 G7p (U3 G4x (U3 G7x (U3 G6y (U3 G6x (U3 G8m (U3 G6k (U3 G6m (U3 G6n (U3 G0n (U3 G2q (rfl))))))))))))
theorem G6g:U8 ["x"] ncS A9j=true:=by decide+kernel
theorem G4s:U8 ["1.5"] ncS A9j=true:=by decide+kernel
theorem G7k:U8 ["--1"] ncS A9j=true:=by decide+kernel
theorem G7a:U8 [""] ncS A9j=true:=by decide+kernel
theorem G8q:U8 ["10000"] ncS A9j=true:=by decide+kernel
theorem G7r:U8 ["+1"] ncS A9j=true:=by decide+kernel
theorem G6s:U8 ["-"] ncS A9j=true:=by decide+kernel
theorem G5v:U8 ["1e1"] ncS A9j=true:=by decide+kernel
theorem G7f:U8 ["99999999999999999999"] ncS A9j=true:=by decide+kernel
theorem J3b:U8 ncB ncS A9j=true:=U3 G6g (U3 G4s (U3 G7k (U3 G7a (U3 G8q (U3 G7r (U3 G6s (U3 G5v (U3 G7f (rfl)))))))))
theorem C4m{bs ws:List Str}{f:Str ->Str}(h:U8 bs ws f=true){z y:Str}(hz:z∈bs)(hy:y∈ws):(("B":Str)==z)=false/\y.length+(y.length+1)*z.length<=16777216/\V5 (Txt.replace y "B" z) (f z)=true:=by
 unfold U8 at h
 have h1:=List.all_eq_true.mp h z hz
 rw[Bool.and_eq_true] at h1
 have h2:=List.all_eq_true.mp h1.2 y hy
 rw[Bool.and_eq_true,decide_eq_true_eq] at h2
 exact⟨by simpa using h1.1,h2.1,h2.2⟩
theorem B8e{zs:List Str}{i:Int}(h0:0<=i)(h1:i<zs.length):∃z,z∈zs/\atI (zs.map V.str) i=some (.str z):=by
 obtain⟨j,rfl⟩:=Int.eq_ofNat_of_zero_le h0
 have hj:j<zs.length:=by omega
 exact⟨zs[j],List.getElem_mem hj,G5 (by simp[hj])⟩
theorem J1v(n:Int)(h1:0<n)(h2:n<1000000):0<n/\n.natAbs.log2<9000:=by
 have e:(2:Nat)^20=1048576:=by decide
 have:n.natAbs<2^20:=by omega
 exact⟨h1,Nat.lt_trans (A3p this (by decide)) (by decide)⟩
noncomputable def G3v:List (Str×Str) ->TA
 | []=>B3m
 |p::r=>A8a (G4n (A8a (tC (.str p.1)) (A8a (tC (.str p.2)) B3m))) (G3v r)
structure A0r(H:Hp)(ps:List Addr)(prs:List (Str×Str)):Prop where
 len:ps.length=prs.length
 get:∀(i:Nat) (p:Addr) (pr:Str×Str),ps[i]?=some p ->prs[i]?=some pr ->H p=some (.tup [.str pr.1,.str pr.2])
theorem A0r.same{H H':Hp}{ps:List Addr}{prs:List (Str×Str)}(h:A0r H ps prs)(s:B5 H H'):A0r H' ps prs:=⟨h.len,fun i p pr e1 e2=>s _ _ (h.get i p pr e1 e2)⟩
theorem A0r.app{H:Hp}{ps qs:List Addr}{prs qrs:List (Str×Str)}(h:A0r H ps prs)(k:A0r H qs qrs):A0r H (ps++qs) (prs++qrs):=by
 refine⟨by rw[List.length_append,List.length_append,h.len,k.len],fun i p pr e1 e2=>?_⟩
 by_cases hi:i<ps.length
 . rw[List.getElem?_append_left hi] at e1
   rw[List.getElem?_append_left (by rw[<-h.len];exact hi)] at e2
   exact h.get i p pr e1 e2
 rw[List.getElem?_append_right (by omega)] at e1
 rw[List.getElem?_append_right (by rw[<-h.len];omega), <-h.len] at e2
 exact k.get _ p pr e1 e2
theorem A0r.one{H:Hp}{p:Addr}{z a:Str}(h:H p=some (.tup [.str z,.str a])):A0r H [p] [(z,a)]:=⟨rfl,fun i q pr e1 e2=>by
 cases i with
 |zero=>cases e1;cases e2;exact h
 |succ i=>simp at e1⟩
theorem A0c:∀(prs:List (Str×Str)) (σ:L2.St) (H:Hp) (Q:List V ->Hp ->Prop),(∀ps H',B5 H H' ->A0r H' ps prs ->Q (ps.map V.ref) H') ->G3v prs σ H Q
 | [],σ,H,Q,h=>h [] H (B5.refl _) ⟨rfl,fun i p pr e=>by simp at e⟩
 | p ::r,σ,H,Q,h=>⟨B8 (show(2:Nat)<=1000 by decide),fun q nq=>by
     have u:=B5.upd (o:= .tup [.str p.1,.str p.2]) nq
     exact A0c r σ _ _ (fun ps H' s' t=>h (q::ps) H' (u.trans s') (A0r.app (A0r.one (s' _ _ A6)) t))⟩
theorem ixp{H:Hp}{ps:List Addr}{prs:List (Str×Str)}(t:A0r H ps prs){i:Int}(h0:0<=i)(h1:i<(prs.length:Int)):∃p pr,pr∈prs/\prs[i.toNat]?=some pr/\atI (ps.map V.ref) i=some (.ref p)/\H p=some (.tup [.str pr.1,.str pr.2]):=by
 obtain⟨j,rfl⟩:=Int.eq_ofNat_of_zero_le h0
 have hj:j<prs.length:=by omega
 have hp:j<ps.length:=by rw[t.len];exact hj
 exact⟨ps[j],prs[j],List.getElem_mem hj,List.getElem?_eq_getElem hj,G5 (by simp[hp]),t.get j _ _ (List.getElem?_eq_getElem hp) (List.getElem?_eq_getElem hj)⟩
section
variable{P:Program}{w:World}{K:Frag}{mg:Str ->Option Value}{base:Heap}
noncomputable def C6r:Sp:=fun vs H Q _=>∃c:Int,vs=[.int c]/\∀p z a H',B5 H H' ->H' p=some (.tup [.str z,.str a]) ->V5 z a=true ->Q (.ref p) H'
theorem scNoLine33:B0 ["_law_cell","_law_some"] ["_law_cell"] (A4 A5n):=scK
theorem B7s{f:Addr}{fd:FuncData}(D:Def K mg "_law_no_line" ["_law_cell"] A5n f fd):A9 P w K mg base (CX1 P w) 1 f fd ["_law_cell"] C6r:=by
 refine D.F.okE scNoLine33 (fun vs H Q E h=>?_) (fun X cdv A outer s H vs Q E hX hr hx h=>?_)
 . obtain⟨c,rfl,_⟩:=h
   rfl
 subst hX
 obtain⟨c,rfl,k⟩:=h
 refine⟨_,(A2 (B7 (D3 (i:=1) scNoLine33.nd rfl (Or.inl rfl) (U0 (A0 A3 (A0 A3 (A0 A3 (A0 A3 (A0 A3 (A0 A3 (A0 A3 (A0 A3 (A0 A3 (A0 A3 A1))))))))))))) (A2 (B7 (D3 (i:=1) scNoLine33.nd rfl (Or.inl rfl) (D4 Z5 (pv 1) (U0 (A0 A3 (A0 A3 (A0 A3 (A0 A3 (A0 A3 (A0 A3 (A0 A3 (A0 A3 A1)))))))))))) (A2 (B7 (D3 (i:=1) scNoLine33.nd rfl (Or.inl rfl) (D4 Z5 (pv 1) (U0 (A0 A3 (A0 A3 (A0 A3 (A0 A3 (A0 A3 (A0 A3 A1)))))))))) (A2 (B7 (D3 (i:=1) scNoLine33.nd rfl (Or.inl rfl) (D4 Z5 (pv 1) (U0 (A0 A3 (A0 A3 (A0 A3 (A0 A3 (A0 A3 A1))))))))) (A2 (B7 (D3 (i:=1) scNoLine33.nd rfl (Or.inl rfl) (D4 Z5 (pv 1) (U0 (A0 A3 (A0 A3 (A0 A3 (A0 A3 (A0 A3 (A0 A3 A1)))))))))) (A2 (B7 (D3 (i:=1) scNoLine33.nd rfl (Or.inl rfl) (D4 Z5 (pv 1) (U0 (A0 A3 (A0 A3 (A0 A3 (A0 A3 (A0 A3 (A0 A3 (A0 A3 (A0 A3 A1)))))))))))) (A2 (B7 (D3 (i:=1) scNoLine33.nd rfl (Or.inl rfl) (D4 Z5 (pv 1) (U0 (A0 A3 (A0 A3 (A0 A3 (A0 A3 (A0 A3 (A0 A3 A1)))))))))) (A5 (A8 (G6 (A0 (V3 V9 (pv 1) (D4 A2q (pv 0) A7) (fun _ _=>rfl)) (A0 A3 A1)))))))))))),?_⟩
 have zz:∀{n:Nat},n<=1000 ->n<=sizeLine:=fun h=>B8 h
 refine⟨fun σ' H'=>∃l,B5 H H'/\H' l=some (.lst (nl0.map V.str))/\σ'=[some (.int c),some (.ref l)],⟨zz (by decide),fun l nl=>⟨l,B5.upd nl,A6,rfl⟩⟩,?_⟩
 rintro σ' H1 ⟨l,s1,e1,rfl⟩
 refine⟨fun σ' H'=>∃l,B5 H H'/\H' l=some (.lst ((nl0++nl1).map V.str))/\σ'=[some (.int c),some (.ref l)],?_,?_⟩
 . refine⟨_,rfl,zz (by decide),fun q nq=>?_⟩
   have u:=B5.upd (o:= .lst (nl1.map V.str)) nq
   refine⟨l,q,_,nl1.map V.str,rfl,rfl,u _ _ e1,A6,zz (by simp only[List.length_map];decide),fun p np=>⟨p,s1.trans (u.trans (B5.upd np)),?_,rfl⟩⟩
   rw[A6]
   exact congrArg (fun x=>some (HO.lst x)) List.map_append.symm
 clear s1 e1
 rintro σ' H1 ⟨l,s1,e1,rfl⟩
 refine⟨fun σ' H'=>∃l,B5 H H'/\H' l=some (.lst (((nl0++nl1)++nl2).map V.str))/\σ'=[some (.int c),some (.ref l)],?_,?_⟩
 . refine⟨_,rfl,zz (by decide),fun q nq=>?_⟩
   have u:=B5.upd (o:= .lst (nl2.map V.str)) nq
   refine⟨l,q,_,nl2.map V.str,rfl,rfl,u _ _ e1,A6,zz (by simp only[List.length_map];decide),fun p np=>⟨p,s1.trans (u.trans (B5.upd np)),?_,rfl⟩⟩
   rw[A6]
   exact congrArg (fun x=>some (HO.lst x)) List.map_append.symm
 clear s1 e1
 rintro σ' H1 ⟨l,s1,e1,rfl⟩
 refine⟨fun σ' H'=>∃l,B5 H H'/\H' l=some (.lst ((((nl0++nl1)++nl2)++nl3).map V.str))/\σ'=[some (.int c),some (.ref l)],?_,?_⟩
 . refine⟨_,rfl,zz (by decide),fun q nq=>?_⟩
   have u:=B5.upd (o:= .lst (nl3.map V.str)) nq
   refine⟨l,q,_,nl3.map V.str,rfl,rfl,u _ _ e1,A6,zz (by simp only[List.length_map];decide),fun p np=>⟨p,s1.trans (u.trans (B5.upd np)),?_,rfl⟩⟩
   rw[A6]
   exact congrArg (fun x=>some (HO.lst x)) List.map_append.symm
 clear s1 e1
 rintro σ' H1 ⟨l,s1,e1,rfl⟩
 refine⟨fun σ' H'=>∃l,B5 H H'/\H' l=some (.lst (((((nl0++nl1)++nl2)++nl3)++nl4).map V.str))/\σ'=[some (.int c),some (.ref l)],?_,?_⟩
 . refine⟨_,rfl,zz (by decide),fun q nq=>?_⟩
   have u:=B5.upd (o:= .lst (nl4.map V.str)) nq
   refine⟨l,q,_,nl4.map V.str,rfl,rfl,u _ _ e1,A6,zz (by simp only[List.length_map];decide),fun p np=>⟨p,s1.trans (u.trans (B5.upd np)),?_,rfl⟩⟩
   rw[A6]
   exact congrArg (fun x=>some (HO.lst x)) List.map_append.symm
 clear s1 e1
 rintro σ' H1 ⟨l,s1,e1,rfl⟩
 refine⟨fun σ' H'=>∃l,B5 H H'/\H' l=some (.lst ((((((nl0++nl1)++nl2)++nl3)++nl4)++nl5).map V.str))/\σ'=[some (.int c),some (.ref l)],?_,?_⟩
 . refine⟨_,rfl,zz (by decide),fun q nq=>?_⟩
   have u:=B5.upd (o:= .lst (nl5.map V.str)) nq
   refine⟨l,q,_,nl5.map V.str,rfl,rfl,u _ _ e1,A6,zz (by simp only[List.length_map];decide),fun p np=>⟨p,s1.trans (u.trans (B5.upd np)),?_,rfl⟩⟩
   rw[A6]
   exact congrArg (fun x=>some (HO.lst x)) List.map_append.symm
 clear s1 e1
 rintro σ' H1 ⟨l,s1,e1,rfl⟩
 refine⟨fun σ' H'=>∃l,B5 H H'/\H' l=some (.lst (((((((nl0++nl1)++nl2)++nl3)++nl4)++nl5)++nl6).map V.str))/\σ'=[some (.int c),some (.ref l)],?_,?_⟩
 . refine⟨_,rfl,zz (by decide),fun q nq=>?_⟩
   have u:=B5.upd (o:= .lst (nl6.map V.str)) nq
   refine⟨l,q,_,nl6.map V.str,rfl,rfl,u _ _ e1,A6,zz (by simp only[List.length_map];decide),fun p np=>⟨p,s1.trans (u.trans (B5.upd np)),?_,rfl⟩⟩
   rw[A6]
   exact congrArg (fun x=>some (HO.lst x)) List.map_append.symm
 clear s1 e1
 rintro σ' H1 ⟨l,s1,e1,rfl⟩
 obtain⟨z,hz,ix⟩:=B8e (zs:=nlA) (i:=c % 49) (Int.emod_nonneg _ (by decide)) (by show c % 49<49;exact Int.emod_lt_of_pos _ (by decide))
 refine⟨_,rfl,_,rfl,_,_,rfl,rfl,(by decide:(0:Int)<49),l,_,_,_,rfl,rfl,SqL.of e1,ix,zz (show(2:Nat)<=1000 by decide),fun p np=>?_⟩
 exact k p z "no line" _ (s1.trans (B5.upd np)) A6 (List.all_eq_true.mp J2a z hz)
theorem scLByd33:B0 ["_law_cell","_law_some"] ["_law_cell"] (A4 B1c):=scK
theorem C6m{f:Addr}{fd:FuncData}(D:Def K mg "_law_beyond" ["_law_cell"] B1c f fd):A9 P w K mg base (CX1 P w) 1 f fd ["_law_cell"] C6r:=by
 refine D.F.okE scLByd33 (fun vs H Q E h=>?_) (fun X cdv A outer s H vs Q E hX hr hx h=>?_)
 . obtain⟨c,rfl,_⟩:=h
   rfl
 subst hX
 obtain⟨c,rfl,k⟩:=h
 refine⟨_,(A2 (B7 (D3 (i:=1) scLByd33.nd rfl (Or.inl rfl) (U0 (A0 (G6 (A0 A3 (A0 A3 A1))) (A0 (G6 (A0 A3 (A0 A3 A1))) (A0 (G6 (A0 A3 (A0 A3 A1))) A1)))))) (A2 (B7 (D3 (i:=1) scLByd33.nd rfl (Or.inl rfl) (D4 Z5 (pv 1) (U0 (A0 (G6 (A0 A3 (A0 A3 A1))) (A0 (G6 (A0 A3 (A0 A3 A1))) (A0 (G6 (A0 A3 (A0 A3 A1))) A1))))))) (A2 (B7 (D3 (i:=1) scLByd33.nd rfl (Or.inl rfl) (D4 Z5 (pv 1) (U0 (A0 (G6 (A0 A3 (A0 A3 A1))) (A0 (G6 (A0 A3 (A0 A3 A1))) (A0 (G6 (A0 A3 (A0 A3 A1))) A1))))))) (A2 (B7 (D3 (i:=1) scLByd33.nd rfl (Or.inl rfl) (D4 Z5 (pv 1) (U0 (A0 (G6 (A0 A3 (A0 A3 A1))) (A0 (G6 (A0 A3 (A0 A3 A1))) (A0 (G6 (A0 A3 (A0 A3 A1))) A1))))))) (A2 (B7 (D3 (i:=1) scLByd33.nd rfl (Or.inl rfl) (D4 Z5 (pv 1) (U0 (A0 (G6 (A0 A3 (A0 A3 A1))) (A0 (G6 (A0 A3 (A0 A3 A1))) (A0 (G6 (A0 A3 (A0 A3 A1))) A1))))))) (A2 (B7 (D3 (i:=1) scLByd33.nd rfl (Or.inl rfl) (D4 Z5 (pv 1) (U0 (A0 (G6 (A0 A3 (A0 A3 A1))) (A0 (G6 (A0 A3 (A0 A3 A1))) (A0 (G6 (A0 A3 (A0 A3 A1))) A1))))))) (A2 (B7 (D3 (i:=1) scLByd33.nd rfl (Or.inl rfl) (D4 Z5 (pv 1) (U0 (A0 (G6 (A0 A3 (A0 A3 A1))) (A0 (G6 (A0 A3 (A0 A3 A1))) (A0 (G6 (A0 A3 (A0 A3 A1))) A1))))))) (A2 (B7 (D3 (i:=1) scLByd33.nd rfl (Or.inl rfl) (D4 Z5 (pv 1) (U0 (A0 (G6 (A0 A3 (A0 A3 A1))) (A0 (G6 (A0 A3 (A0 A3 A1))) (A0 (G6 (A0 A3 (A0 A3 A1))) A1))))))) (A5 (A8 (V3 V9 (pv 1) (D4 A2q (pv 0) A7) (fun _ _=>rfl)))))))))))),?_⟩
 have zz:∀{n:Nat},n<=1000 ->n<=sizeLine:=fun h=>B8 h
 refine⟨fun σ' H'=>∃l ps,B5 H H'/\H' l=some (.lst (ps.map V.ref))/\A0r H' ps by0/\σ'=[some (.int c),some (.ref l)],A0c by0 _ _ _ (fun ps H' s' t=>⟨zz (by rw[List.length_map,t.len];decide),fun l nl=>⟨l,ps,s'.trans (B5.upd nl),A6,t.same (B5.upd nl),rfl⟩⟩),?_⟩
 rintro σ' H1 ⟨l,ps,s1,e1,t1,rfl⟩
 refine⟨fun σ' H'=>∃l ps,B5 H H'/\H' l=some (.lst (ps.map V.ref))/\A0r H' ps (by0++by1)/\σ'=[some (.int c),some (.ref l)],?_,?_⟩
 . refine⟨_,rfl,A0c by1 _ _ _ (fun qs H' s' t=>⟨zz (by rw[List.length_map,t.len];decide),fun q nq=>?_⟩)⟩
   have u:=s'.trans (B5.upd (o:= .lst (qs.map V.ref)) nq)
   refine⟨l,q,_,qs.map V.ref,rfl,rfl,u _ _ e1,A6,zz (by rw[List.length_map,List.length_map,t.len,t1.len];decide),fun p np=>⟨p,ps++qs,s1.trans (u.trans (B5.upd np)),?_,((t1.same u).app (t.same (B5.upd nq))).same (B5.upd np),rfl⟩⟩
   rw[A6]
   exact congrArg (fun x=>some (HO.lst x)) List.map_append.symm
 clear s1 e1 t1
 rintro σ' H1 ⟨l,ps,s1,e1,t1,rfl⟩
 refine⟨fun σ' H'=>∃l ps,B5 H H'/\H' l=some (.lst (ps.map V.ref))/\A0r H' ps ((by0++by1)++by2)/\σ'=[some (.int c),some (.ref l)],?_,?_⟩
 . refine⟨_,rfl,A0c by2 _ _ _ (fun qs H' s' t=>⟨zz (by rw[List.length_map,t.len];decide),fun q nq=>?_⟩)⟩
   have u:=s'.trans (B5.upd (o:= .lst (qs.map V.ref)) nq)
   refine⟨l,q,_,qs.map V.ref,rfl,rfl,u _ _ e1,A6,zz (by rw[List.length_map,List.length_map,t.len,t1.len];decide),fun p np=>⟨p,ps++qs,s1.trans (u.trans (B5.upd np)),?_,((t1.same u).app (t.same (B5.upd nq))).same (B5.upd np),rfl⟩⟩
   rw[A6]
   exact congrArg (fun x=>some (HO.lst x)) List.map_append.symm
 clear s1 e1 t1
 rintro σ' H1 ⟨l,ps,s1,e1,t1,rfl⟩
 refine⟨fun σ' H'=>∃l ps,B5 H H'/\H' l=some (.lst (ps.map V.ref))/\A0r H' ps (((by0++by1)++by2)++by3)/\σ'=[some (.int c),some (.ref l)],?_,?_⟩
 . refine⟨_,rfl,A0c by3 _ _ _ (fun qs H' s' t=>⟨zz (by rw[List.length_map,t.len];decide),fun q nq=>?_⟩)⟩
   have u:=s'.trans (B5.upd (o:= .lst (qs.map V.ref)) nq)
   refine⟨l,q,_,qs.map V.ref,rfl,rfl,u _ _ e1,A6,zz (by rw[List.length_map,List.length_map,t.len,t1.len];decide),fun p np=>⟨p,ps++qs,s1.trans (u.trans (B5.upd np)),?_,((t1.same u).app (t.same (B5.upd nq))).same (B5.upd np),rfl⟩⟩
   rw[A6]
   exact congrArg (fun x=>some (HO.lst x)) List.map_append.symm
 clear s1 e1 t1
 rintro σ' H1 ⟨l,ps,s1,e1,t1,rfl⟩
 refine⟨fun σ' H'=>∃l ps,B5 H H'/\H' l=some (.lst (ps.map V.ref))/\A0r H' ps ((((by0++by1)++by2)++by3)++by4)/\σ'=[some (.int c),some (.ref l)],?_,?_⟩
 . refine⟨_,rfl,A0c by4 _ _ _ (fun qs H' s' t=>⟨zz (by rw[List.length_map,t.len];decide),fun q nq=>?_⟩)⟩
   have u:=s'.trans (B5.upd (o:= .lst (qs.map V.ref)) nq)
   refine⟨l,q,_,qs.map V.ref,rfl,rfl,u _ _ e1,A6,zz (by rw[List.length_map,List.length_map,t.len,t1.len];decide),fun p np=>⟨p,ps++qs,s1.trans (u.trans (B5.upd np)),?_,((t1.same u).app (t.same (B5.upd nq))).same (B5.upd np),rfl⟩⟩
   rw[A6]
   exact congrArg (fun x=>some (HO.lst x)) List.map_append.symm
 clear s1 e1 t1
 rintro σ' H1 ⟨l,ps,s1,e1,t1,rfl⟩
 refine⟨fun σ' H'=>∃l ps,B5 H H'/\H' l=some (.lst (ps.map V.ref))/\A0r H' ps (((((by0++by1)++by2)++by3)++by4)++by5)/\σ'=[some (.int c),some (.ref l)],?_,?_⟩
 . refine⟨_,rfl,A0c by5 _ _ _ (fun qs H' s' t=>⟨zz (by rw[List.length_map,t.len];decide),fun q nq=>?_⟩)⟩
   have u:=s'.trans (B5.upd (o:= .lst (qs.map V.ref)) nq)
   refine⟨l,q,_,qs.map V.ref,rfl,rfl,u _ _ e1,A6,zz (by rw[List.length_map,List.length_map,t.len,t1.len];decide),fun p np=>⟨p,ps++qs,s1.trans (u.trans (B5.upd np)),?_,((t1.same u).app (t.same (B5.upd nq))).same (B5.upd np),rfl⟩⟩
   rw[A6]
   exact congrArg (fun x=>some (HO.lst x)) List.map_append.symm
 clear s1 e1 t1
 rintro σ' H1 ⟨l,ps,s1,e1,t1,rfl⟩
 refine⟨fun σ' H'=>∃l ps,B5 H H'/\H' l=some (.lst (ps.map V.ref))/\A0r H' ps ((((((by0++by1)++by2)++by3)++by4)++by5)++by6)/\σ'=[some (.int c),some (.ref l)],?_,?_⟩
 . refine⟨_,rfl,A0c by6 _ _ _ (fun qs H' s' t=>⟨zz (by rw[List.length_map,t.len];decide),fun q nq=>?_⟩)⟩
   have u:=s'.trans (B5.upd (o:= .lst (qs.map V.ref)) nq)
   refine⟨l,q,_,qs.map V.ref,rfl,rfl,u _ _ e1,A6,zz (by rw[List.length_map,List.length_map,t.len,t1.len];decide),fun p np=>⟨p,ps++qs,s1.trans (u.trans (B5.upd np)),?_,((t1.same u).app (t.same (B5.upd nq))).same (B5.upd np),rfl⟩⟩
   rw[A6]
   exact congrArg (fun x=>some (HO.lst x)) List.map_append.symm
 clear s1 e1 t1
 rintro σ' H1 ⟨l,ps,s1,e1,t1,rfl⟩
 refine⟨fun σ' H'=>∃l ps,B5 H H'/\H' l=some (.lst (ps.map V.ref))/\A0r H' ps (((((((by0++by1)++by2)++by3)++by4)++by5)++by6)++by7)/\σ'=[some (.int c),some (.ref l)],?_,?_⟩
 . refine⟨_,rfl,A0c by7 _ _ _ (fun qs H' s' t=>⟨zz (by rw[List.length_map,t.len];decide),fun q nq=>?_⟩)⟩
   have u:=s'.trans (B5.upd (o:= .lst (qs.map V.ref)) nq)
   refine⟨l,q,_,qs.map V.ref,rfl,rfl,u _ _ e1,A6,zz (by rw[List.length_map,List.length_map,t.len,t1.len];decide),fun p np=>⟨p,ps++qs,s1.trans (u.trans (B5.upd np)),?_,((t1.same u).app (t.same (B5.upd nq))).same (B5.upd np),rfl⟩⟩
   rw[A6]
   exact congrArg (fun x=>some (HO.lst x)) List.map_append.symm
 clear s1 e1 t1
 rintro σ' H1 ⟨l,ps,s1,e1,t1,rfl⟩
 obtain⟨p,pr,hp,_,ix,ep⟩:=ixp (prs:=byA) t1 (i:=c % 24) (Int.emod_nonneg _ (by decide)) (by show c % 24<24;exact Int.emod_lt_of_pos _ (by decide))
 exact⟨_,rfl,_,rfl,_,_,rfl,rfl,(by decide:(0:Int)<24),l,_,_,_,rfl,rfl,SqL.of e1,ix,k p pr.1 pr.2 _ s1 ep (List.all_eq_true.mp J1g pr hp)⟩
theorem scNoNum33:B0 ["_law_cell","_law_bad","_law_some"] ["_law_cell"] (A4 A7p):=scK
theorem C1u{f:Addr}{fd:FuncData}(D:Def K mg "_law_no_number" ["_law_cell"] A7p f fd):A8n P w K mg base (CX1 P w) 1 f fd ["_law_cell"] C6r:=by
 refine D.F.okET scNoNum33 (fun vs H Q E h=>?_) (fun X cdv A outer s H vs Q E hX hr hx h=>?_)
 . obtain⟨c,rfl,_⟩:=h
   rfl
 subst hX
 obtain⟨c,rfl,k⟩:=h
 refine⟨_,(B3y (i:=1) scNoNum33.nd rfl rfl (D8 G9 (D8 G9 (D8 G9 (D8 G9 (D8 G9 (D8 G9 (D8 G9 (D8 G9 (D8 G9 (D8 (C7x (by decide+kernel) (by decide) (by decide)) (D8 G9 (D8 G9 B0t)))))))))))) (B6y (A9g (i:=0) rfl (.inl rfl)) A8v) (fun _ _=>rfl)
   (B4f (i:=2) scNoNum33.nd rfl rfl (by decide) (D8 G9 (D8 G9 (D8 G9 (D8 G9 (D8 G9 (D8 G9 (D8 G9 (D8 G9 B0t))))))))
   (B4g (G2v (D9m (A9x (i:=1) (G3n (A9g (i:=2) rfl (.inl rfl)) (B6y (C3q (A9g (i:=0) rfl (.inl rfl)) A8v) A8v) (fun _ _=>rfl)) rfl rfl) (A0 A3 A1))) C6))),?_⟩
 have zz:∀{n:Nat},n<=1000 ->n<=sizeLine:=fun h=>B8 h
 refine⟨fun σ' H'=>∃z,z∈nnB/\B5 H H'/\σ'=[some (.int c),some (.str z),none],?_,?_⟩
 . refine⟨zz (by decide),fun l nl=>?_⟩
   obtain⟨z,hz,ix⟩:=B8e (zs:=nnB) (i:=c % 12) (Int.emod_nonneg _ (by decide)) (by show c % 12<12;exact Int.emod_lt_of_pos _ (by decide))
   exact⟨_,rfl,_,_,rfl,rfl,(by decide:(0:Int)<12),l,_,_,_,rfl,rfl,SqL.of A6,Int.emod_nonneg _ (by decide),ix,z,hz,B5.upd nl,rfl⟩
 rintro σ' H1 ⟨z,hz,s1,rfl⟩
 refine⟨fun σ' H'=>∃l,B5 H H'/\H' l=some (.lst (nnS.map V.str))/\σ'=[some (.int c),some (.str z),some (.ref l)],⟨zz (by decide),fun l nl=>⟨l,s1.trans (B5.upd nl),A6,rfl⟩⟩,?_⟩
 rintro σ' H2 ⟨l,s2,e2,rfl⟩
 obtain⟨y,hy,ix⟩:=B8e (zs:=nnS) (i:=c/12 % 8) (Int.emod_nonneg _ (by decide)) (by show c/12 % 8<8;exact Int.emod_lt_of_pos _ (by decide))
 obtain⟨r1,r2,r3⟩:=C4m J2f hz hy
 exact⟨_,rfl,_,rfl,_,_,rfl,rfl,⟨by decide,by decide⟩,_,_,rfl,rfl,(by decide:(0:Int)<8),l,_,_,_,rfl,rfl,SqL.of e2,Int.emod_nonneg _ (by decide),ix,y,z,rfl,rfl,r1,r2,zz (show(2:Nat)<=1000 by decide),fun p np=>k p _ _ _ (s2.trans (B5.upd np)) A6 r3⟩
theorem scNoCnt33:B0 ["_law_cell","_law_bad","_law_some","_law_line"] ["_law_cell"] (A4 A7w):=scK
theorem C2a{f:Addr}{fd:FuncData}(D:Def K mg "_law_no_count" ["_law_cell"] A7w f fd):A8n P w K mg base (CX1 P w) 1 f fd ["_law_cell"] C6r:=by
 refine D.F.okET scNoCnt33 (fun vs H Q E h=>?_) (fun X cdv A outer s H vs Q E hX hr hx h=>?_)
 . obtain⟨c,rfl,_⟩:=h
   rfl
 subst hX
 obtain⟨c,rfl,k⟩:=h
 refine⟨_,(B3y (i:=1) scNoCnt33.nd rfl rfl (D8 G9 (D8 G9 (D8 G9 (D8 G9 (D8 G9 (D8 G9 (D8 G9 (D8 G9 (D8 G9 B0t))))))))) (B6y (A9g (i:=0) rfl (.inl rfl)) A8v) (fun _ _=>rfl)
   (B4f (i:=2) scNoCnt33.nd rfl rfl (by decide) (D8 G9 (D8 G9 (D8 G9 (D8 G9 (D8 G9 (D8 G9 B0t))))))
   (B4g (G1z (i:=3) scNoCnt33.nd rfl rfl (A9x (i:=1) (G3n (A9g (i:=2) rfl (.inl rfl)) (B6y (C3q (A9g (i:=0) rfl (.inl rfl)) A8v) A8v) (fun _ _=>rfl)) rfl rfl)) (A5 (A8 (G6 (A0 (pv 3) (A0 (U1 (B9 D9 (pv 1) A3 (C0 _)) A3 A3) A1)))))))),?_⟩
 have zz:∀{n:Nat},n<=1000 ->n<=sizeLine:=fun h=>B8 h
 refine⟨fun σ' H'=>∃z,z∈ncB/\B5 H H'/\σ'=[some (.int c),some (.str z),none,none],?_,?_⟩
 . refine⟨zz (by decide),fun l nl=>?_⟩
   obtain⟨z,hz,ix⟩:=B8e (zs:=ncB) (i:=c % 9) (Int.emod_nonneg _ (by decide)) (by show c % 9<9;exact Int.emod_lt_of_pos _ (by decide))
   exact⟨_,rfl,_,_,rfl,rfl,(by decide:(0:Int)<9),l,_,_,_,rfl,rfl,SqL.of A6,Int.emod_nonneg _ (by decide),ix,z,hz,B5.upd nl,rfl⟩
 rintro σ' H1 ⟨z,hz,s1,rfl⟩
 refine⟨fun σ' H'=>∃l,B5 H H'/\H' l=some (.lst (ncS.map V.str))/\σ'=[some (.int c),some (.str z),some (.ref l),none],⟨zz (by decide),fun l nl=>⟨l,s1.trans (B5.upd nl),A6,rfl⟩⟩,?_⟩
 rintro σ' H2 ⟨l,s2,e2,rfl⟩
 obtain⟨y,hy,ix⟩:=B8e (zs:=ncS) (i:=c/9 % 6) (Int.emod_nonneg _ (by decide)) (by show c/9 % 6<6;exact Int.emod_lt_of_pos _ (by decide))
 obtain⟨r1,r2,r3⟩:=C4m J3b hz hy
 refine⟨fun σ' H'=>H'=H2/\σ'=[some (.int c),some (.str z),some (.ref l),some (.str (Txt.replace y "B" z))],⟨_,rfl,_,rfl,_,_,rfl,rfl,⟨by decide,by decide⟩,_,_,rfl,rfl,(by decide:(0:Int)<6),l,_,_,_,rfl,rfl,SqL.of e2,Int.emod_nonneg _ (by decide),ix,y,z,rfl,rfl,r1,r2,rfl,rfl⟩,?_⟩
 rintro σ' H3 ⟨rfl,rfl⟩
 have fin:∀a,a=A9j z ->2<=sizeLine/\∀p,H3 p=none ->Q (.ref p) (upd H3 p (.tup [.str (Txt.replace y "B" z),.str a])):=fun a e=>⟨zz (show(2:Nat)<=1000 by decide),fun p np=>k p _ _ _ (s2.trans (B5.upd np)) A6 (by rw[e];exact r3)⟩
 refine⟨_,rfl,_,rfl,rfl,_,rfl,?_⟩
 by_cases hz0:z=""
 . exact A0y (congrArg V.str hz0) (fin "no line" (by unfold A9j;rw[if_pos hz0]))
 exact A0s (fun q=>hz0 (V.str.inj q)) (fin "no count" (by unfold A9j;rw[if_neg hz0]))
theorem scWrong33:B0 ["_law_cell","_law_way"] ["_law_cell"] (A4 A8j):=scK
theorem C1s{f f1 f2 f3 f4:Addr}{fd fd1 fd2 fd3 fd4:FuncData}(D:Def K mg "_law_wrong" ["_law_cell"] A8j f fd)(D_l_no_line:Def K mg "_law_no_line" ["_law_cell"] A5n f1 fd1)(D_l_no_number:Def K mg "_law_no_number" ["_law_cell"] A7p f2 fd2)(D_l_no_count:Def K mg "_law_no_count" ["_law_cell"] A7w f3 fd3)(D_l_beyond:Def K mg "_law_beyond" ["_law_cell"] B1c f4 fd4):A9 P w K mg base (CX1 P w) 2 f fd ["_law_cell"] C6r:=by
 have G_l_no_line:=B7s (P:=P) (w:=w) (base:=base) D_l_no_line
 have G_l_no_number:=C1u (P:=P) (w:=w) (base:=base) D_l_no_number
 have G_l_no_count:=C2a (P:=P) (w:=w) (base:=base) D_l_no_count
 have G_l_beyond:=C6m (P:=P) (w:=w) (base:=base) D_l_beyond
 refine D.F.okE scWrong33 (fun vs H Q E h=>?_) (fun X cdv A outer s H vs Q E hX hr hx h=>?_)
 . obtain⟨c,rfl,_⟩:=h
   rfl
 subst hX
 obtain⟨c,rfl,k⟩:=h
 have d4:=J1v 4 (by decide) (by decide)
 refine⟨_,(A2 (B7 (D3 (i:=1) scWrong33.nd rfl (Or.inl rfl) (D4 A2q (pv 0) A7))) (A2 (B7 (D7 (B9 D9 (pv 1) A7 (C0 _)) (A5 (A8 (C8 D_l_no_line G_l_no_line hr hx (A0 (D4 A0n (pv 0) A7) A1)))) C6)) (A2 (B7 (D7 (B9 D9 (pv 1) A7 (C0 _)) (A5 (A8 (D3h D_l_no_number G_l_no_number hr hx A0n (pv 0)))) C6)) (A2 (B7 (D7 (B9 D9 (pv 1) A7 (C0 _)) (A5 (A8 (D3h D_l_no_count G_l_no_count hr hx A0n (pv 0)))) C6)) (A5 (A8 (C8 D_l_beyond G_l_beyond hr hx (A0 (D4 A0n (pv 0) A7) A1)))))))),?_⟩
 refine⟨fun σ' H'=>H'=H/\σ'=[some (.int c),some (.int (c % 4))],⟨_,rfl,_,_,rfl,rfl,(by decide:(0:Int)<4),rfl,rfl⟩,?_⟩
 rintro σ' H1 ⟨rfl,rfl⟩
 have J:∀{Q':Prop},(([some (V.int c),some (V.int (c % 4))]:L2.St)=[some (.int c),some (.int (c % 4))] ->Q') ->Q':=fun h=>h rfl
 have go:∀H',H'=H1 ->∀p z a H'',B5 H' H'' ->H'' p=some (.tup [.str z,.str a]) ->V5 z a=true ->Q (.ref p) H'':=fun H' e p z a H'' s' h1 h2=>by subst e;exact k p z a H'' s' h1 h2
 refine⟨fun σ' H'=>H'=H1/\σ'=[some (.int c),some (.int (c % 4))],⟨_,rfl,rfl,_,rfl,U6 (fun _=>⟨_,rfl,_,_,rfl,rfl,d4,_,rfl,go H1 rfl⟩) (fun _=>⟨rfl,rfl⟩)⟩,?_⟩
 rintro σ' H2 ⟨rfl,rfl⟩
 refine⟨fun σ' H'=>H'=H2/\σ'=[some (.int c),some (.int (c % 4))],⟨_,rfl,rfl,_,rfl,U6 (fun _=>⟨_,rfl,_,_,rfl,rfl,d4,_,rfl,go H2 rfl⟩) (fun _=>⟨rfl,rfl⟩)⟩,?_⟩
 rintro σ' H3 ⟨rfl,rfl⟩
 refine⟨fun σ' H'=>H'=H3/\σ'=[some (.int c),some (.int (c % 4))],⟨_,rfl,rfl,_,rfl,U6 (fun _=>⟨_,rfl,_,_,rfl,rfl,d4,_,rfl,go H3 rfl⟩) (fun _=>⟨rfl,rfl⟩)⟩,?_⟩
 rintro σ' H4 ⟨rfl,rfl⟩
 exact⟨_,rfl,_,_,rfl,rfl,d4,_,rfl,go H4 rfl⟩
end
end TR
namespace TR
open PySem L2 PySem.W PyProof.Rows
seal PE PS PSs PA PT PW PG PI PO
noncomputable abbrev B5t:Stmt:=(top 142)
noncomputable def gd0:List (Str×Str):=[("plus 1 2","3"),("over 1 0","end"),("flags","split"),("trap off","done")]
noncomputable def gd1:List (Str×Str):=[("over 1 3","trapped off"),("flags","split off cut"),("clear","done")]
noncomputable def gd2:List (Str×Str):=[("room 3","done"),("way up","done"),("trap","done"),("over 2 3","0.667")]
noncomputable def gd3:List (Str×Str):=[("bounds -2 1","done"),("plus 99 1","end"),("flags","burst off cut")]
theorem G5m:(((gd0++gd1)++gd2)++gd3)=B5d:=rfl
theorem G8s:(B5d.all fun p=>PyData.strOk p.2)=true:=by decide+kernel
theorem G4w{z a:Str}(h:V5 z a=true):PyData.strOk a=true:=by
 unfold V5 at h
 rw[Bool.and_eq_true] at h
 exact h.2
theorem C8u{prs:List (Str×Str)}{ys:List V}{f:Str×Str ->Str}(hl:ys.length=prs.length)(h:∀(i:Nat) (y:V),ys[i]?=some y ->∃pr,prs[i]?=some pr/\y= .str (f pr)):ys=(prs.map f).map V.str:=by
 refine List.ext_getElem? fun i=>?_
 rw[List.getElem?_map,List.getElem?_map]
 cases hy:ys[i]? with
 | none=>
   have:prs[i]?=none:=List.getElem?_eq_none (by rw[<-hl];exact List.getElem?_eq_none_iff.mp hy)
   rw[this]
   rfl
 | some y=>
   obtain⟨pr,hp,rfl⟩:=h i y hy
   rw[hp]
   rfl
section
variable{P:Program}{w:World}{K:Frag}{mg:Str ->Option Value}{base:Heap}
noncomputable abbrev A6a (sc:Addr) (x1 x2 x3 x4 x5:Option V):L2.St:=[some (.ref sc),x1,x2,x3,x4,x5]
noncomputable def C5n (K:Frag):Sp:=fun vs H Q _=>∃a ns,vs=[.ref a]/\(ns:List Int).length<=63/\SqL K H a (ns.map V.int)/\∀H',Q (.bl true) H'
theorem scLaw:B0 ["_law_script","_law_good","_law_pairs","_law_k","_law_cell","_law_found"] ["_law_script"] (A4 B5t):=scK
theorem G7w{f f1 f2 f3 f4:Addr}{fd fd1 fd2 fd3 fd4:FuncData}(D:Def K mg "law" ["_law_script"] B5t f fd)
   (D_l_cell_at:Def K mg "_law_cell_at" ["_law_script","_law_k"] C4s f1 fd1) (G_l_cell_at:A9 P w K mg base (CX1 P w) 1 f1 fd1 ["_law_script","_law_k"] (C9w K)) (D_l_mixed:Def K mg "_law_mixed" ["_law_cell","_law_k"] B5j f2 fd2) (G_l_mixed:A9 P w K mg base (CX1 P w) 1 f2 fd2 ["_law_cell","_law_k"] C4x)
   (D_l_wrong:Def K mg "_law_wrong" ["_law_cell"] A8j f3 fd3) (G_l_wrong:A9 P w K mg base (CX1 P w) 2 f3 fd3 ["_law_cell"] C6r) (D_played:Def K mg "played" ["lines"] B1f f4 fd4) (G_played:A9 P w K mg base (CX1 P w) 17 f4 fd4 ["lines"] B9w) (T:Kit K) (O:Own mg):
   A9 P w K mg base (CX1 P w) 18 f fd ["_law_script"] (C5n K):=by
 refine D.F.okE scLaw (fun vs H Q E h=>?_) (fun X cdv A outer s H vs Q E hX hr hx h=>?_)
 . obtain⟨a,ns,rfl,_⟩:=h
   rfl
 subst hX
 obtain⟨sc,ns,rfl,n63,hS,kk⟩:=h
 refine⟨_,(A2 (B7 (D3 (i:=1) scLaw.nd rfl (Or.inl rfl) (U0 (A0 (G6 (A0 A3 (A0 A3 A1))) (A0 (G6 (A0 A3 (A0 A3 A1))) (A0 (G6 (A0 A3 (A0 A3 A1))) (A0 (G6 (A0 A3 (A0 A3 A1))) A1))))))) (A2 (B7 (D3 (i:=1) scLaw.nd rfl (Or.inl rfl) (D4 Z5 (pv 1) (U0 (A0 (G6 (A0 A3 (A0 A3 A1))) (A0 (G6 (A0 A3 (A0 A3 A1))) (A0 (G6 (A0 A3 (A0 A3 A1))) A1))))))) (A2 (B7 (D3 (i:=1) scLaw.nd rfl (Or.inl rfl) (D4 Z5 (pv 1) (U0 (A0 (G6 (A0 A3 (A0 A3 A1))) (A0 (G6 (A0 A3 (A0 A3 A1))) (A0 (G6 (A0 A3 (A0 A3 A1))) (A0 (G6 (A0 A3 (A0 A3 A1))) A1)))))))) (A2 (B7 (D3 (i:=1) scLaw.nd rfl (Or.inl rfl) (D4 Z5 (pv 1) (U0 (A0 (G6 (A0 A3 (A0 A3 A1))) (A0 (G6 (A0 A3 (A0 A3 A1))) (A0 (G6 (A0 A3 (A0 A3 A1))) A1))))))) (A2 (B7 (D3 (i:=2) scLaw.nd rfl (Or.inl rfl) (U0 A1))) (A2 (B7 (B6v PassesOwn.leaving rfl (C7e rfl O.range_ (A0 (U2 Y3 (by rfl) O.len_ PySem.boot_len (A0 (pv 1) A1)) A1)) (A1c (i:=3) scLaw.nd rfl (Or.inl rfl)) (A2 (B7 (D3 (i:=4) scLaw.nd rfl (Or.inl rfl) (C8 D_l_mixed G_l_mixed hr hx (A0 (C8 D_l_cell_at G_l_cell_at hr hx (A0 (pv 0) (A0 (pv 3) A1))) (A0 (pv 3) A1))))) (A2 (B7 (D7 (B9 A8c (D4 A2q (pv 4) A7) A7 (C0 _)) (A5 (B7 (U5 (A1q PySem.F.plainAttrs_list PySem.F.slot_list_append PySem.F.type_list_append A2x (pv 2) (A0 (C8 D_l_wrong G_l_wrong hr hx (A0 (D4 A0n (pv 4) A7) A1)) A1))))) C6)) (A5 (B7 (U5 (A1q PySem.F.plainAttrs_list PySem.F.slot_list_append PySem.F.type_list_append A2x (pv 2) (A0 (V3 V9 (pv 1) (pv 3) (fun _ _=>rfl)) A1))))))))) (A2 (B7 (D3 (i:=5) scLaw.nd rfl (Or.inl rfl) (C8 D_played G_played hr hx (A0 (A5e (N:=["_law_pair"]) (F:=[]) (js:=[]) (G0.of0 ⟨rfl,by decide+kernel,by decide+kernel,by decide+kernel,by decide+kernel⟩ (by rfl)) (.inl hr.hd) rfl (A2g (pv 2)) rfl (fun C s₀ H₀ ex pn h=>A1c (i:=0) (by decide+kernel:(["_law_pair"]:List Str).Nodup) rfl (Or.inl rfl)) (fun C s₀ H₀ ex pn h=>(V3 (B7h (K:=K) rfl) (pv 0) A7 (fun _ _=>rfl)))) A1)))) (A5 (A8 (A6e (B9g O.isi (pv 5) (pty O.list_ boot_list)) (A6f (V2 (C9t hr.units) (pv 5) (A5e (N:=["_law_pair"]) (F:=[]) (js:=[]) (G0.of0 ⟨rfl,by decide+kernel,by decide+kernel,by decide+kernel,by decide+kernel⟩ (by rfl)) (.inl hr.hd) rfl (A2g (pv 2)) rfl (fun C s₀ H₀ ex pn h=>A1c (i:=0) (by decide+kernel:(["_law_pair"]:List Str).Nodup) rfl (Or.inl rfl)) (fun C s₀ H₀ ex pn h=>(V3 (B7h (K:=K) rfl) (pv 0) A7 (fun _ _=>rfl)))) (C0 _))))))))))))),?_⟩
 have zz:∀{n:Nat},n<=1000 ->n<=sizeLine:=fun h=>B8 h
 refine⟨fun σ' H'=>∃l ps,B5 H H'/\H' l=some (.lst (ps.map V.ref))/\A0r H' ps gd0/\σ'=A6a sc (some (.ref l)) none none none none,A0c gd0 _ _ _ (fun ps H' s' t=>⟨zz (by rw[List.length_map,t.len];decide),fun l nl=>⟨l,ps,s'.trans (B5.upd nl),A6,t.same (B5.upd nl),rfl⟩⟩),?_⟩
 rintro σ' H1 ⟨l,ps,s1,e1,t1,rfl⟩
 refine⟨fun σ' H'=>∃l ps,B5 H H'/\H' l=some (.lst (ps.map V.ref))/\A0r H' ps (gd0++gd1)/\σ'=A6a sc (some (.ref l)) none none none none,?_,?_⟩
 . refine⟨_,rfl,A0c gd1 _ _ _ (fun qs H' s' t=>⟨zz (by rw[List.length_map,t.len];decide),fun q nq=>?_⟩)⟩
   have u:=s'.trans (B5.upd (o:= .lst (qs.map V.ref)) nq)
   refine⟨l,q,_,qs.map V.ref,rfl,rfl,u _ _ e1,A6,zz (by rw[List.length_map,List.length_map,t.len,t1.len];decide),fun p np=>⟨p,ps++qs,s1.trans (u.trans (B5.upd np)),?_,((t1.same u).app (t.same (B5.upd nq))).same (B5.upd np),rfl⟩⟩
   rw[A6]
   exact congrArg (fun x=>some (HO.lst x)) (List.map_append (l₂:=_)).symm
 clear s1 e1 t1
 rintro σ' H1 ⟨l,ps,s1,e1,t1,rfl⟩
 refine⟨fun σ' H'=>∃l ps,B5 H H'/\H' l=some (.lst (ps.map V.ref))/\A0r H' ps ((gd0++gd1)++gd2)/\σ'=A6a sc (some (.ref l)) none none none none,?_,?_⟩
 . refine⟨_,rfl,A0c gd2 _ _ _ (fun qs H' s' t=>⟨zz (by rw[List.length_map,t.len];decide),fun q nq=>?_⟩)⟩
   have u:=s'.trans (B5.upd (o:= .lst (qs.map V.ref)) nq)
   refine⟨l,q,_,qs.map V.ref,rfl,rfl,u _ _ e1,A6,zz (by rw[List.length_map,List.length_map,t.len,t1.len];decide),fun p np=>⟨p,ps++qs,s1.trans (u.trans (B5.upd np)),?_,((t1.same u).app (t.same (B5.upd nq))).same (B5.upd np),rfl⟩⟩
   rw[A6]
   exact congrArg (fun x=>some (HO.lst x)) (List.map_append (l₂:=_)).symm
 clear s1 e1 t1
 rintro σ' H1 ⟨l,ps,s1,e1,t1,rfl⟩
 refine⟨fun σ' H'=>∃l ps,B5 H H'/\H' l=some (.lst (ps.map V.ref))/\A0r H' ps (((gd0++gd1)++gd2)++gd3)/\σ'=A6a sc (some (.ref l)) none none none none,?_,?_⟩
 . refine⟨_,rfl,A0c gd3 _ _ _ (fun qs H' s' t=>⟨zz (by rw[List.length_map,t.len];decide),fun q nq=>?_⟩)⟩
   have u:=s'.trans (B5.upd (o:= .lst (qs.map V.ref)) nq)
   refine⟨l,q,_,qs.map V.ref,rfl,rfl,u _ _ e1,A6,zz (by rw[List.length_map,List.length_map,t.len,t1.len];decide),fun p np=>⟨p,ps++qs,s1.trans (u.trans (B5.upd np)),?_,((t1.same u).app (t.same (B5.upd nq))).same (B5.upd np),rfl⟩⟩
   rw[A6]
   exact congrArg (fun x=>some (HO.lst x)) (List.map_append (l₂:=_)).symm
 clear s1 e1 t1
 rintro σ' H1 ⟨l,ps,s1,e1,t1,rfl⟩
 rw[G5m] at t1
 have lp:ps.length=14:=t1.len
 refine⟨fun σ' H'=>∃d,B5 H1 H'/\H1 d=none/\H' d=some (.lst [])/\σ'=A6a sc (some (.ref l)) (some (.ref d)) none none none,⟨zz (by decide),fun d nd=>⟨d,B5.upd nd,nd,A6,rfl⟩⟩,?_⟩
 rintro σ' H2 ⟨d,s2,nd,ed,rfl⟩
 refine⟨fun σ' H'=>∃(qs:List Addr) (prs:List (Str×Str)) (v3 v4:Option V),B5 H1 H'/\H' d=some (.lst (qs.map V.ref))/\A0r H' qs prs/\Pl prs (gst 14)/\prs.length<=28/\(∀p∈prs,PyData.strOk p.2=true)/\σ'=A6a sc (some (.ref l)) (some (.ref d)) v3 v4 none,?_,?_⟩
 . refine⟨_,rfl,l,_,rfl,.inl (SqL.of (s2 _ _ e1)),_,rfl,by rw[List.length_map];omega,by rw[List.length_map];omega,?_⟩
   rw[List.length_map,lp]
   refine C8j (fun i σ' H'=>∃(qs:List Addr) (prs:List (Str×Str)) (v3 v4:Option V),B5 H1 H'/\H' d=some (.lst (qs.map V.ref))/\A0r H' qs prs/\Pl prs (gst i)/\prs.length<=2*i/\(∀p∈prs,PyData.strOk p.2=true)/\σ'=A6a sc (some (.ref l)) (some (.ref d)) v3 v4 none) ⟨[],[],none,none,s2,ed,⟨rfl,fun i p pr e=>by simp at e⟩,Pl.nil,Nat.le_refl _,(fun p hp=>nomatch hp),rfl⟩ ?_ (fun σ' H' h=>h)
   rintro i σ' H3 hi ⟨qs,prs,v3,v4,s3,ed3,t3,pl,l2,so,rfl⟩
   have e0:(0:Int)+(i:Int)=(i:Int):=Int.zero_add _
   rw[e0]
   refine⟨fun σ' H'=>∃m:Int,H'=H3/\σ'=A6a sc (some (.ref l)) (some (.ref d)) (some (.int (i:Int))) (some (.int m)) none,⟨_,rfl,_,rfl,sc,ns,_,rfl,(s1.trans s3).seq hS,by omega,fun c=>⟨_,rfl,c,_,rfl,by omega,by omega,fun m m0 m1=>⟨m,rfl,rfl⟩⟩⟩,?_⟩
   rintro σ' H4 ⟨m,rfl,rfl⟩
   have app:∀{H':Hp} {p:Addr} {z a:Str} {qs':List Addr} {prs':List (Str×Str)},B5 H1 H' ->H' d=some (.lst (qs'.map V.ref)) ->A0r H' qs' prs' ->H' p=some (.tup [.str z,.str a]) ->B5 H1 (upd H' d (.lst (qs'.map V.ref++ [.ref p])))/\A0r (upd H' d (.lst (qs'.map V.ref++ [.ref p]))) (qs'++ [p]) (prs'++ [(z,a)]):=fun{H' p z a qs' prs'} s' e' t' ep=>by
     have up:∀{q:Addr} {o:HO},H' q=some o ->(∀xs,o≠ .lst xs) ->upd H' d (.lst (qs'.map V.ref++ [.ref p])) q=some o:=fun{q o} h n=>by
       rw[C9]
       . exact h
       . rintro rfl
         rw[e'] at h
         exact n _ (Option.some.inj h).symm
     refine⟨fun q o h=>?_,A0r.app ⟨t'.len,fun j q pr a1 a2=>up (t'.get j q pr a1 a2) (fun xs z=>nomatch z)⟩ (A0r.one (up ep (fun xs z=>nomatch z)))⟩
     rw[C9 (D5 h nd)]
     exact s' _ _ h
   refine⟨fun σ' H'=>∃(qs:List Addr) (prs:List (Str×Str)),B5 H1 H'/\H' d=some (.lst (qs.map V.ref))/\A0r H' qs prs/\Pl prs (gst i)/\prs.length<=2*i+1/\(∀p∈prs,PyData.strOk p.2=true)/\σ'=A6a sc (some (.ref l)) (some (.ref d)) (some (.int (i:Int))) (some (.int m)) none,?_,?_⟩
   . refine⟨_,rfl,_,_,rfl,rfl,(by decide:(0:Int)<3),_,_,rfl,rfl,_,rfl,U6 (fun h=>⟨_,?_,fun _ _ h=>h⟩) (fun h=>⟨qs,prs,s3,ed3,t3,pl,by omega,so,rfl⟩)⟩
     refine⟨_,rfl,.inl ⟨rfl,_,SqL.of ed3⟩,_,rfl,_,_,rfl,rfl,J1v 3 (by decide) (by decide),_,rfl,fun p z a H5 s5 ep wr=>?_⟩
     have ed5:=s5 _ _ ed3
     obtain⟨a1,a2⟩:=app (s3.trans s5) ed5 (t3.same s5) ep
     refine⟨d,_,_,rfl,rfl,ed5,by rw[List.length_map,t3.len];exact Y6 (by omega),qs++ [p],prs++ [(z,a)],a1,?_,a2,pl.wrong (G5p hi) wr,by rw[List.length_append];show prs.length+1<=_;omega,fun q hq=>?_,rfl⟩
     . rw[A6]
       exact congrArg (fun x=>some (HO.lst x)) (List.map_append (l₂:=[p])).symm
     . rcases List.mem_append.mp hq with hq|hq
       . exact so q hq
       . rw[List.mem_singleton.mp hq]
         exact G4w wr
   clear ed3 t3 pl l2 so s3
   rintro σ' H5 ⟨qs,prs,s3,ed3,t3,pl,l2,so,rfl⟩
   refine⟨_,?_,fun _ _ h=>h⟩
   obtain⟨p,pr,hp,hg,ix,ep⟩:=ixp (t1.same s3) (i:=(i:Int)) (by omega) (by show(i:Int)<(14:Nat);omega)
   obtain⟨a1,a2⟩:=app s3 ed3 t3 ep
   refine⟨_,rfl,.inl ⟨rfl,_,SqL.of ed3⟩,_,rfl,_,rfl,l,_,_,_,rfl,rfl,SqL.of (s3 _ _ e1),ix,d,_,_,rfl,rfl,ed3,by rw[List.length_map,t3.len];exact Y6 (by omega),qs++ [p],prs++ [pr],_,_,a1,?_,a2,pl.good hg,by rw[List.length_append];show prs.length+1<=_;omega,fun q hq=>?_,rfl⟩
   . rw[A6]
     exact congrArg (fun x=>some (HO.lst x)) (List.map_append (l₂:=[p])).symm
   . rcases List.mem_append.mp hq with hq|hq
     . exact so q hq
     . rw[List.mem_singleton.mp hq]
       exact List.all_eq_true.mp G8s pr hp
 rintro σ' H3 ⟨qs,prs,v3,v4,s3,ed3,t3,pl,l2,so,rfl⟩
 obtain⟨st,R⟩:=pl.runs (by omega)
 have lq:qs.length=prs.length:=t3.len
 have comp:∀{H':Hp},B5 H3 H' ->∀i,(hi:i<prs.length) ->∀x H4,(Itl K d).yld i H' x H4 ->H4=H'/\∃q pr,x= .ref q/\prs[i]?=some pr/\H' q=some (.tup [.str pr.1,.str pr.2]):=fun{H'} sm i hi x H4 yl=>by
   obtain⟨rfl,yl⟩:=yl
   have hq:i<qs.length:=by omega
   have:=yl _ (SqL.of (sm _ _ ed3))
   simp[hq] at this
   exact⟨rfl,qs[i],prs[i],this.symm,List.getElem?_eq_getElem hi,sm _ _ (t3.get i _ _ (List.getElem?_eq_getElem hq) (List.getElem?_eq_getElem hi))⟩
 refine⟨fun σ' H'=>∃g,B5 H3 H'/\H' g=some (.lst ((prs.map (·.2)).map V.str))/\σ'=A6a sc (some (.ref l)) (some (.ref d)) v3 v4 (some (.ref g)),?_,?_⟩
 . refine⟨_,rfl,d,rfl,⟨_,SqL.of ed3⟩,A8s (J:=Itl K d) (n:=prs.length) (fun i y _=>∃pr,prs[i]?=some pr/\y= .str pr.1) (by omega) (fun _ _ _ _ _ _ h _ _=>h) (fun i H4 Qy hi sm hy=>⟨⟨_,V.ref (qs[i]'(by omega)),SqL.of (sm _ _ ed3),by simp[lq,hi]⟩,fun x H5 yl=>?_⟩) (fun H4 sm=>⟨_,SqL.of (sm _ _ ed3),by simp[lq]⟩) (fun D' H' ys sm nD eD hlen hR=>?_)⟩
   . obtain⟨rfl,q,pr,rfl,hp,eq⟩:=comp sm i hi x H5 yl
     exact⟨_,rfl,q,_,_,_,rfl,rfl,SqT.of eq,G5 (j:=0) rfl,hy _ _ (B5.refl _) ⟨pr,hp,rfl⟩⟩
   . rw[C8u (f:=fun p=>p.1) hlen hR] at eD
     exact⟨D',_,_,st,rfl,eD,R,fun g H'' s'' ng eg=>⟨g,sm.trans s'',eg,rfl⟩⟩
 rintro σ' H4 ⟨g,s4,eg,rfl⟩
 have okA:OkL (prs.map (·.2)):=⟨by rw[List.length_map];omega,fun z hz=>by
   obtain⟨p,hp,rfl⟩:=List.mem_map.mp hz
   exact so p hp⟩
 refine⟨_,rfl,_,_,_,_,true,rfl,rfl,D2t eg,T.list_list,_,rfl,Y1 ?_⟩
 refine⟨_,rfl,_,rfl,d,rfl,⟨_,SqL.of (s4 _ _ ed3)⟩,A8s (J:=Itl K d) (n:=prs.length) (fun i y _=>∃pr,prs[i]?=some pr/\y= .str pr.2) (by omega) (fun _ _ _ _ _ _ h _ _=>h) (fun i H5 Qy hi sm hy=>⟨⟨_,V.ref (qs[i]'(by omega)),SqL.of (sm _ _ (s4 _ _ ed3)),by simp[lq,hi]⟩,fun x H6 yl=>?_⟩) (fun H5 sm=>⟨_,SqL.of (sm _ _ (s4 _ _ ed3)),by simp[lq]⟩) (fun D' H' ys sm nD eD hlen hR=>?_)⟩
 . obtain⟨rfl,q,pr,rfl,hp,eq⟩:=comp (s4.trans sm) i hi x H6 yl
   exact⟨_,rfl,q,_,_,_,rfl,rfl,SqT.of eq,G5 (j:=1) rfl,hy _ _ (B5.refl _) ⟨pr,hp,rfl⟩⟩
 rw[C8u (f:=fun p=>p.2) hlen hR] at eD
 refine⟨rdS (prs.map (·.2)),rdS (prs.map (·.2)),A8y (sm _ _ eg),A8y eD,shS okA,shS okA,?_⟩
 rw[if_neg Bool.false_ne_true,J1n]
 exact kk _
end
noncomputable abbrev C7u:Stmt:=(top 104)
theorem kvp{κ:Type} [DecidableEq κ] {k:κ} {x:V} {u:Value} {kvs:List (κ×V)} {vs:List (κ×Value)} (h:U4 x u) (r:KV kvs vs):KV ((k,x)::kvs) ((k,u)::vs):= .cons ⟨rfl,h⟩ r
theorem C8e{P:Program}{w:World}{K:Frag}{aN:Addr}{g0 h0 g1 h1 g2 h2 g3 h3 g4 h4 g5 h5 g6 h6 g7 h7 g8 h8 g9 h9 g10 h10 g11 h11 g12 h12 g13 h13 g14 h14 g15 h15:Tok}{epG:Nat}(lk:K.lookup aN=some ⟨.type "dict",none,.dict #[⟨PyData.keyHash w.params "plus",.str "plus" g0,.int 2 h0⟩,⟨PyData.keyHash w.params "minus",.str "minus" g1,.int 2 h1⟩,⟨PyData.keyHash w.params "times",.str "times" g2,.int 2 h2⟩,⟨PyData.keyHash w.params "fused",.str "fused" g3,.int 3 h3⟩,⟨PyData.keyHash w.params "over",.str "over" g4,.int 2 h4⟩,⟨PyData.keyHash w.params "whole over",.str "whole over" g5,.int 2 h5⟩,⟨PyData.keyHash w.params "rest",.str "rest" g6,.int 2 h6⟩,⟨PyData.keyHash w.params "root",.str "root" g7,.int 1 h7⟩,⟨PyData.keyHash w.params "same power",.str "same power" g8,.int 2 h8⟩,⟨PyData.keyHash w.params "to whole",.str "to whole" g9,.int 1 h9⟩,⟨PyData.keyHash w.params "trimmed",.str "trimmed" g10,.int 1 h10⟩,⟨PyData.keyHash w.params "next up",.str "next up" g11,.int 1 h11⟩,⟨PyData.keyHash w.params "next down",.str "next down" g12,.int 1 h12⟩,⟨PyData.keyHash w.params "lesser",.str "lesser" g13,.int 2 h13⟩,⟨PyData.keyHash w.params "greater",.str "greater" g14,.int 2 h14⟩,⟨PyData.keyHash w.params "compare",.str "compare" g15,.int 2 h15⟩] epG, #[]⟩)(ns:(aN==sysModules)=false):C0b P w K aN NUM:=by
 refine⟨ns,fun h X=>⟨[(Sum.inr "plus",.int 2 h0),(Sum.inr "minus",.int 2 h1),(Sum.inr "times",.int 2 h2),(Sum.inr "fused",.int 3 h3),(Sum.inr "over",.int 2 h4),(Sum.inr "whole over",.int 2 h5),(Sum.inr "rest",.int 2 h6),(Sum.inr "root",.int 1 h7),(Sum.inr "same power",.int 2 h8),(Sum.inr "to whole",.int 1 h9),(Sum.inr "trimmed",.int 1 h10),(Sum.inr "next up",.int 1 h11),(Sum.inr "next down",.int 1 h12),(Sum.inr "lesser",.int 2 h13),(Sum.inr "greater",.int 2 h14),(Sum.inr "compare",.int 2 h15)],?_,⟨_,_,epG,X _ _ lk,⟨rfl,rfl,rfl⟩,rfl,?_,?_,?_⟩⟩⟩
 . exact kvp ⟨_,rfl⟩ (kvp ⟨_,rfl⟩ (kvp ⟨_,rfl⟩ (kvp ⟨_,rfl⟩ (kvp ⟨_,rfl⟩ (kvp ⟨_,rfl⟩ (kvp ⟨_,rfl⟩ (kvp ⟨_,rfl⟩ (kvp ⟨_,rfl⟩ (kvp ⟨_,rfl⟩ (kvp ⟨_,rfl⟩ (kvp ⟨_,rfl⟩ (kvp ⟨_,rfl⟩ (kvp ⟨_,rfl⟩ (kvp ⟨_,rfl⟩ (kvp ⟨_,rfl⟩ (.nil))))))))))))))))
 . intro e he
   have he:=Array.mem_toList_iff.mpr he
   simp only[List.mem_cons,List.not_mem_nil,or_false] at he
   rcases he with rfl|rfl|rfl|rfl|rfl|rfl|rfl|rfl|rfl|rfl|rfl|rfl|rfl|rfl|rfl|rfl
   . exact⟨.inr "plus",D0 _ _ _ _,rfl⟩
   . exact⟨.inr "minus",D0 _ _ _ _,rfl⟩
   . exact⟨.inr "times",D0 _ _ _ _,rfl⟩
   . exact⟨.inr "fused",D0 _ _ _ _,rfl⟩
   . exact⟨.inr "over",D0 _ _ _ _,rfl⟩
   . exact⟨.inr "whole over",D0 _ _ _ _,rfl⟩
   . exact⟨.inr "rest",D0 _ _ _ _,rfl⟩
   . exact⟨.inr "root",D0 _ _ _ _,rfl⟩
   . exact⟨.inr "same power",D0 _ _ _ _,rfl⟩
   . exact⟨.inr "to whole",D0 _ _ _ _,rfl⟩
   . exact⟨.inr "trimmed",D0 _ _ _ _,rfl⟩
   . exact⟨.inr "next up",D0 _ _ _ _,rfl⟩
   . exact⟨.inr "next down",D0 _ _ _ _,rfl⟩
   . exact⟨.inr "lesser",D0 _ _ _ _,rfl⟩
   . exact⟨.inr "greater",D0 _ _ _ _,rfl⟩
   . exact⟨.inr "compare",D0 _ _ _ _,rfl⟩
 . exact .cons (D0 _ _ _ _) rfl (.cons (D0 _ _ _ _) rfl (.cons (D0 _ _ _ _) rfl (.cons (D0 _ _ _ _) rfl (.cons (D0 _ _ _ _) rfl (.cons (D0 _ _ _ _) rfl (.cons (D0 _ _ _ _) rfl (.cons (D0 _ _ _ _) rfl (.cons (D0 _ _ _ _) rfl (.cons (D0 _ _ _ _) rfl (.cons (D0 _ _ _ _) rfl (.cons (D0 _ _ _ _) rfl (.cons (D0 _ _ _ _) rfl (.cons (D0 _ _ _ _) rfl (.cons (D0 _ _ _ _) rfl (.cons (D0 _ _ _ _) rfl (.nil))))))))))))))))
 show(([(Sum.inr "plus",.int 2 h0),(Sum.inr "minus",.int 2 h1),(Sum.inr "times",.int 2 h2),(Sum.inr "fused",.int 3 h3),(Sum.inr "over",.int 2 h4),(Sum.inr "whole over",.int 2 h5),(Sum.inr "rest",.int 2 h6),(Sum.inr "root",.int 1 h7),(Sum.inr "same power",.int 2 h8),(Sum.inr "to whole",.int 1 h9),(Sum.inr "trimmed",.int 1 h10),(Sum.inr "next up",.int 1 h11),(Sum.inr "next down",.int 1 h12),(Sum.inr "lesser",.int 2 h13),(Sum.inr "greater",.int 2 h14),(Sum.inr "compare",.int 2 h15)]:List (Key×Value)).map (·.1)).Nodup
 simp only[List.map_cons,List.map_nil]
 exact(by decide+kernel:(NUM.map fun p=>(Sum.inr p.1:Key)).Nodup)
noncomputable def Fa (K:Frag) (x:Str) (st:Stmt):Prop:=∃(f:Addr) (oc:Value) (od:Option Addr) (osl:Array (Option Value)) (kV doc pm:Value) (an:Option Addr) (cdv ct:Value),nsIn K mainGlobals x=some (some (.ref f))/\K.lookup f=some ⟨oc,od,.func (fnOf x x (J9 st) (G8 st) (A4 st) .none kV doc pm an cdv ct),osl⟩/\codeIn K cdv x=true/\keepIn K (.ref f)=true
theorem Fa.mk{K:Frag}{x:Str}{st:Stmt}{f:Addr}{oc:Value}{od an:Option Addr}{osl:Array (Option Value)}{kV doc pm cdv ct:Value}(a:nsIn K mainGlobals x=some (some (.ref f)))(l:K.lookup f=some ⟨oc,od,.func (fnOf x x (J9 st) (G8 st) (A4 st) .none kV doc pm an cdv ct),osl⟩)(c:codeIn K cdv x=true)(k:keepIn K (.ref f)=true):Fa K x st:=
 ⟨_,_,_,_,_,_,_,_,_,_,a,l,c,k⟩
noncomputable def Fb (K:Frag) (C:Addr) (m q:Str) (st:Stmt):Prop:=∃(f:Addr) (oc:Value) (od:Option Addr) (osl:Array (Option Value)) (kV doc pm:Value) (an:Option Addr) (cdv ct:Value),findIn K (.ref C) m=some (some (.ref f))/\isFn K (.ref f)=true/\K.lookup f=some ⟨oc,od,.func (fnOf m q (J9 st) (G8 st) (A4 st) .none kV doc pm an cdv ct),osl⟩/\codeIn K cdv q=true/\keepIn K (.ref f)=true
theorem Fb.mk{K:Frag}{C:Addr}{m q:Str}{st:Stmt}{f:Addr}{oc:Value}{od an:Option Addr}{osl:Array (Option Value)}{kV doc pm cdv ct:Value}(a:findIn K (.ref C) m=some (some (.ref f)))(i:isFn K (.ref f)=true)(l:K.lookup f=some ⟨oc,od,.func (fnOf m q (J9 st) (G8 st) (A4 st) .none kV doc pm an cdv ct),osl⟩)(c:codeIn K cdv q=true)(k:keepIn K (.ref f)=true):Fb K C m q st:=
 ⟨_,_,_,_,_,_,_,_,_,_,a,i,l,c,k⟩
theorem Fa.go0{K:Frag}{h:Heap}{mg:Str ->Option Value}{x:Str}{st:Stmt}(u:Fa K x st)(X:K.In h)(G:h.Ns mainGlobals mg)
   (hb:∀(kV doc pm:Value) (an:Option Addr) (cdv ct:Value),bindArgs (fnOf x x (J9 st) (G8 st) (A4 st) .none kV doc pm an cdv ct) ⟨[],[]⟩=pure ([].zip []):=by intros;rfl):∃f fd,Def K mg x [] st f fd:=by
 obtain⟨_,_,_,_,_,_,_,_,_,_,a,l,c,k⟩:=u
 exact⟨_,_,A8x X G a l c k fun kV d p an cd ct us hl=>match us,hl with| [],_=>hb kV d p an cd ct⟩
theorem Fa.go1{K:Frag}{h:Heap}{mg:Str ->Option Value}{x:Str}{p0:Str}{st:Stmt}(u:Fa K x st)(X:K.In h)(G:h.Ns mainGlobals mg)
   (hb:∀(kV doc pm:Value) (an:Option Addr) (cdv ct:Value) (u0:Value),bindArgs (fnOf x x (J9 st) (G8 st) (A4 st) .none kV doc pm an cdv ct) ⟨[u0],[]⟩=pure ([p0].zip [u0]):=by intros;rfl):∃f fd,Def K mg x [p0] st f fd:=by
 obtain⟨_,_,_,_,_,_,_,_,_,_,a,l,c,k⟩:=u
 exact⟨_,_,A8x X G a l c k fun kV d p an cd ct us hl=>match us,hl with| [_],_=>hb kV d p an cd ct _⟩
theorem Fb.go1{K:Frag}{C:Addr}{x q:Str}{p0:Str}{st:Stmt}(u:Fb K C x q st)
   (hb:∀(kV doc pm:Value) (an:Option Addr) (cdv ct:Value) (u0:Value),bindArgs (fnOf x q (J9 st) (G8 st) (A4 st) .none kV doc pm an cdv ct) ⟨[u0],[]⟩=pure ([p0].zip [u0]):=by intros;rfl):∃f fd,Fun K x q st f fd/\Binds K fd [p0] []/\B3p K C x f:=by
 obtain⟨_,_,_,_,_,_,_,_,_,_,a,i,l,c,k⟩:=u
 exact⟨_,_,A1v (st:=st) l c k,(A1v (st:=st) l c k).binds fun kV d p an cd ct us hl=>match us,hl with| [_],_=>hb kV d p an cd ct _,a,i,k⟩
theorem Fa.go2{K:Frag}{h:Heap}{mg:Str ->Option Value}{x:Str}{p0 p1:Str}{st:Stmt}(u:Fa K x st)(X:K.In h)(G:h.Ns mainGlobals mg)
   (hb:∀(kV doc pm:Value) (an:Option Addr) (cdv ct:Value) (u0 u1:Value),bindArgs (fnOf x x (J9 st) (G8 st) (A4 st) .none kV doc pm an cdv ct) ⟨[u0,u1],[]⟩=pure ([p0,p1].zip [u0,u1]):=by intros;rfl):∃f fd,Def K mg x [p0,p1] st f fd:=by
 obtain⟨_,_,_,_,_,_,_,_,_,_,a,l,c,k⟩:=u
 exact⟨_,_,A8x X G a l c k fun kV d p an cd ct us hl=>match us,hl with| [_,_],_=>hb kV d p an cd ct _ _⟩
theorem Fb.go2{K:Frag}{C:Addr}{x q:Str}{p0 p1:Str}{st:Stmt}(u:Fb K C x q st)
   (hb:∀(kV doc pm:Value) (an:Option Addr) (cdv ct:Value) (u0 u1:Value),bindArgs (fnOf x q (J9 st) (G8 st) (A4 st) .none kV doc pm an cdv ct) ⟨[u0,u1],[]⟩=pure ([p0,p1].zip [u0,u1]):=by intros;rfl):∃f fd,Fun K x q st f fd/\Binds K fd [p0,p1] []/\B3p K C x f:=by
 obtain⟨_,_,_,_,_,_,_,_,_,_,a,i,l,c,k⟩:=u
 exact⟨_,_,A1v (st:=st) l c k,(A1v (st:=st) l c k).binds fun kV d p an cd ct us hl=>match us,hl with| [_,_],_=>hb kV d p an cd ct _ _,a,i,k⟩
theorem Fa.go3{K:Frag}{h:Heap}{mg:Str ->Option Value}{x:Str}{p0 p1 p2:Str}{st:Stmt}(u:Fa K x st)(X:K.In h)(G:h.Ns mainGlobals mg)
   (hb:∀(kV doc pm:Value) (an:Option Addr) (cdv ct:Value) (u0 u1 u2:Value),bindArgs (fnOf x x (J9 st) (G8 st) (A4 st) .none kV doc pm an cdv ct) ⟨[u0,u1,u2],[]⟩=pure ([p0,p1,p2].zip [u0,u1,u2]):=by intros;rfl):∃f fd,Def K mg x [p0,p1,p2] st f fd:=by
 obtain⟨_,_,_,_,_,_,_,_,_,_,a,l,c,k⟩:=u
 exact⟨_,_,A8x X G a l c k fun kV d p an cd ct us hl=>match us,hl with| [_,_,_],_=>hb kV d p an cd ct _ _ _⟩
theorem Fa.go4{K:Frag}{h:Heap}{mg:Str ->Option Value}{x:Str}{p0 p1 p2 p3:Str}{st:Stmt}(u:Fa K x st)(X:K.In h)(G:h.Ns mainGlobals mg)
   (hb:∀(kV doc pm:Value) (an:Option Addr) (cdv ct:Value) (u0 u1 u2 u3:Value),bindArgs (fnOf x x (J9 st) (G8 st) (A4 st) .none kV doc pm an cdv ct) ⟨[u0,u1,u2,u3],[]⟩=pure ([p0,p1,p2,p3].zip [u0,u1,u2,u3]):=by intros;rfl):∃f fd,Def K mg x [p0,p1,p2,p3] st f fd:=by
 obtain⟨_,_,_,_,_,_,_,_,_,_,a,l,c,k⟩:=u
 exact⟨_,_,A8x X G a l c k fun kV d p an cd ct us hl=>match us,hl with| [_,_,_,_],_=>hb kV d p an cd ct _ _ _ _⟩
theorem Fb.go4{K:Frag}{C:Addr}{x q:Str}{p0 p1 p2 p3:Str}{st:Stmt}(u:Fb K C x q st)
   (hb:∀(kV doc pm:Value) (an:Option Addr) (cdv ct:Value) (u0 u1 u2 u3:Value),bindArgs (fnOf x q (J9 st) (G8 st) (A4 st) .none kV doc pm an cdv ct) ⟨[u0,u1,u2,u3],[]⟩=pure ([p0,p1,p2,p3].zip [u0,u1,u2,u3]):=by intros;rfl):∃f fd,Fun K x q st f fd/\Binds K fd [p0,p1,p2,p3] []/\B3p K C x f:=by
 obtain⟨_,_,_,_,_,_,_,_,_,_,a,i,l,c,k⟩:=u
 exact⟨_,_,A1v (st:=st) l c k,(A1v (st:=st) l c k).binds fun kV d p an cd ct us hl=>match us,hl with| [_,_,_,_],_=>hb kV d p an cd ct _ _ _ _,a,i,k⟩
end TR
namespace TR
open PySem L2 PySem.W PyProof.Rows
theorem all_mk{l:OpenLaw}{w:World}{K:Frag}{h:Heap}{mg:Str ->Option Value}{fa CW W0 W1 W2 W3 W4 W5 W6 W7 CN B5h CC B3d C5y CQ B5f D4t CE C1 C2 C3 C4 C5 CR fX aS CD B5g aN D5j:Addr}(X:K.In h)(G:h.Ns mainGlobals mg)(hfa:mg "law"=some (.ref fa))(g_:Fa K "product_of" A3c)(p9:Fa K "ten_to" A3t)(pc:Fa K "plain" B7a)(tm:Fa K "end" C2z)(ky:Fa K "nothing" A1z)(qo:Fa K "lead_of" B8w)(pf:Fa K "need_number" A6h)(jt:Fa K "need_numbers" A7d)(ph:Fa K "some_of_kind" A8w)(o5:Fa K "unlike_sign" A8h)(kz:Fa K "whole_at" A4d)(tq:Fa K "is_between" B8d)(k_:Fa K "need_between" A4f)(pi:Fa K "need_count" B2d)(o6:Fa K "part_of" B1d)(pj:Fa K "whole_lead" B1t)(l0:Fa K "settled" A4w)(o7:Fa K "finest_power" A8g)(l5:Fa K "nearest_to" A4y)(h_:Fa K "neighbour" A1t)(o8:Fa K "within_room" A7e)(o9:Fa K "is_beyond" A6y)(pk:Fa K "burst" B2u)(pp:Fa K "nines" B1u)(l6:Fa K "signals_of_rest" A7y)(l7:Fa K "signals_of_lead" A8d)(oe:Fa K "nought" A3j)(qp:Fa K "void" C5s)(pq:Fa K "split_to_end" B5y)(px:Fa K "way_of" B2v)(l8:Fa K "bounded" A7c)(pz:Fa K "need_signals" B2t)(p_:Fa K "in_order" B2c)(qq:Fa K "over" C4t)(qr:Fa K "has_plain_quotient" C5c)(qt:Fa K "odd_quotient" C5m)(og:Fa K "scaled" A7m)(qa:Fa K "to_power" B0p)(qu:Fa K "plus" C5k)(qb:Fa K "added" B6q)(ju:Fa K "end_added" C7u)(qc:Fa K "sign_of_no_sum" B6m)(l9:Fa K "written" A4u)(oh:Fa K "worth_written" B0x)(i0:Fa K "with_point" A3s)(jv:Fa K "with_lead" A5h)(qv:Fa K "read" B9t)(oj:Fa K "sign_of" A7z)(ol:Fa K "without_sign" A7j)(i4:Fa K "plain_read" A3b)(la:Fa K "figures_read" A7q)(i5:Fa K "shift_read" A3u)(lc:Fa K "need_figures" A4q)(om:Fa K "are_figures" A8e)(on:Fa K "played" B1f)(oo:Fa K "answer_of" B0s)(jw:Fa K "line_done" A5a)(qd:Fa K "context_changed" B6e)(qw:Fa K "signals_handled" C4z)(le:Fa K "counted" A7u)(i6:Fa K "count_read" A2b)(qx:Fa K "reckoned" C5r)(qe:Fa K "of_two" B5q)(qy:Fa K "_law_cell_at" C4s)(qf:Fa K "_law_mixed" B5j)(oq:Fa K "_law_no_line" A5n)(qg:Fa K "_law_no_number" A7p)(qh:Fa K "_law_no_count" A7w)(qz:Fa K "_law_beyond" B1c)(ou:Fa K "_law_wrong" A8j){G9r D6r:Option Addr}{J0s:Array (Option Value)}{G9m D8s D5e D4m C3e D6q:Value}(C5w:nsIn K mainGlobals "law"=some (some (.ref D5j)))(D6y:K.lookup D5j=some ⟨G9m,G9r,.func (fnOf "law" "law" (J9 B5t) (G8 B5t) (A4 B5t) .none D8s D5e D4m D6r C3e D6q),J0s⟩)(D4k:codeIn K C3e "law"=true)(D7z:keepIn K (.ref D5j)=true)(tt:G8w K)(T:Kit K)(sn:specialIn K (.builtin "object.__class__") "__get__"=some (some (.builtin "getset_descriptor.__get__")))(tk:takesIn K (.builtin "object.__class__")=some true)(J5m:nsIn K mainGlobals "Way"=some (some (.ref CW)))(G9c:nsIn K mainGlobals "Down"=some (some (.ref W0)))(D6t:Cls K W0)(D7t:makesIn K W0=true)(D5k:keepIn K (.ref W0)=true)(D4p:findIn K (.ref W0) "__class__"=some (some (.builtin "object.__class__")))(D5t:mroIn K W0 (.type "object")=some true)(D5a:findIn K (.ref W0) "__init__"=some (some (.builtin "object.__init__")))(D5u:kitOne K (.ref W0) (.ref CW)=some true)(lh:Fb K W0 "name" "Down.name" sN0)(J0j:nsIn K mainGlobals "Up"=some (some (.ref W1)))(D7y:Cls K W1)(D6w:makesIn K W1=true)(D8k:keepIn K (.ref W1)=true)(D5m:findIn K (.ref W1) "__class__"=some (some (.builtin "object.__class__")))(D4v:mroIn K W1 (.type "object")=some true)(D5d:findIn K (.ref W1) "__init__"=some (some (.builtin "object.__init__")))(D8y:kitOne K (.ref W1) (.ref CW)=some true)(li:Fb K W1 "name" "Up.name" sN1)(J0u:nsIn K mainGlobals "Floor"=some (some (.ref W2)))(D9a:Cls K W2)(D7f:makesIn K W2=true)(D5f:keepIn K (.ref W2)=true)(D7a:findIn K (.ref W2) "__class__"=some (some (.builtin "object.__class__")))(D9d:mroIn K W2 (.type "object")=some true)(D5n:findIn K (.ref W2) "__init__"=some (some (.builtin "object.__init__")))(D5w:kitOne K (.ref W2) (.ref CW)=some true)(lj:Fb K W2 "name" "Floor.name" sN2)(G9w:nsIn K mainGlobals "Ceiling"=some (some (.ref W3)))(D6p:Cls K W3)(D8e:makesIn K W3=true)(D5p:keepIn K (.ref W3)=true)(D8b:findIn K (.ref W3) "__class__"=some (some (.builtin "object.__class__")))(D5r:mroIn K W3 (.type "object")=some true)(D5q:findIn K (.ref W3) "__init__"=some (some (.builtin "object.__init__")))(D6s:kitOne K (.ref W3) (.ref CW)=some true)(lu:Fb K W3 "name" "Ceiling.name" sN3)(J0f:nsIn K mainGlobals "HalfUp"=some (some (.ref W4)))(D5y:Cls K W4)(D5h:makesIn K W4=true)(D6a:keepIn K (.ref W4)=true)(D7n:findIn K (.ref W4) "__class__"=some (some (.builtin "object.__class__")))(D6z:mroIn K W4 (.type "object")=some true)(D8n:findIn K (.ref W4) "__init__"=some (some (.builtin "object.__init__")))(D6c:kitOne K (.ref W4) (.ref CW)=some true)(lv:Fb K W4 "name" "HalfUp.name" sN4)(G9q:nsIn K mainGlobals "HalfDown"=some (some (.ref W5)))(D5v:Cls K W5)(D8d:makesIn K W5=true)(D6b:keepIn K (.ref W5)=true)(D9g:findIn K (.ref W5) "__class__"=some (some (.builtin "object.__class__")))(D8x:mroIn K W5 (.type "object")=some true)(D6e:findIn K (.ref W5) "__init__"=some (some (.builtin "object.__init__")))(D6v:kitOne K (.ref W5) (.ref CW)=some true)(l_:Fb K W5 "name" "HalfDown.name" sN5)(J0a:nsIn K mainGlobals "HalfEven"=some (some (.ref W6)))(D8g:Cls K W6)(D8t:makesIn K W6=true)(D8a:keepIn K (.ref W6)=true)(D6g:findIn K (.ref W6) "__class__"=some (some (.builtin "object.__class__")))(D7g:mroIn K W6 (.type "object")=some true)(D4s:findIn K (.ref W6) "__init__"=some (some (.builtin "object.__init__")))(D6f:kitOne K (.ref W6) (.ref CW)=some true)(m6:Fb K W6 "name" "HalfEven.name" sN6)(J0v:nsIn K mainGlobals "FiveUp"=some (some (.ref W7)))(D7v:Cls K W7)(D7w:makesIn K W7=true)(D6x:keepIn K (.ref W7)=true)(D7r:findIn K (.ref W7) "__class__"=some (some (.builtin "object.__class__")))(D8w:mroIn K W7 (.type "object")=some true)(D8r:findIn K (.ref W7) "__init__"=some (some (.builtin "object.__init__")))(D8h:kitOne K (.ref W7) (.ref CW)=some true)(m7:Fb K W7 "name" "FiveUp.name" sN7)(G9b:nsIn K mainGlobals "Number"=some (some (.ref CN)))(D4x:Cls K CN)(D7s:makesIn K CN=true)(D8f:keepIn K (.ref CN)=true)(D7d:findIn K (.ref CN) "__class__"=some (some (.builtin "object.__class__")))(D4u:mroIn K CN (.type "object")=some true)(A9v:findIn K (.ref CN) "kind"=some none)(A9t:findIn K (.ref CN) "sign"=some none)(A3w:findIn K (.ref CN) "figures"=some none)(A6r:findIn K (.ref CN) "power"=some none)(D8u:findIn K (.ref CN) "__init__"=some (some (.ref B5h)))(D7j:isFn K (.ref B5h)=true){J0m G9t:Option Addr}{J0k:Array (Option Value)}{J0q G9s J0x J0t D6h J1a:Value}(D7h:K.lookup B5h=some ⟨J0q,J0m,.func (fnOf "__init__" "Number.__init__" (J9 B3v) (G8 B3v) (A4 B3v) .none G9s J0x J0t G9t D6h J1a),J0k⟩)(D4r:codeIn K D6h "Number.__init__"=true)(D6m:keepIn K (.ref B5h)=true)(B7q:kitOne K (.ref CN) (.ref CN)=some true)(cb:Fb K W0 "goes_up" "Down.goes_up" sU0)(i7:Fb K W0 "to_end" "Down.to_end" sT0)(cf:Fb K W1 "goes_up" "Up.goes_up" sU1)(i8:Fb K W1 "to_end" "Up.to_end" sT1)(cg:Fb K W2 "goes_up" "Floor.goes_up" sU2)(i9:Fb K W2 "to_end" "Floor.to_end" sT2)(ci:Fb K W3 "goes_up" "Ceiling.goes_up" sU3)(ia:Fb K W3 "to_end" "Ceiling.to_end" sT3)(cj:Fb K W4 "goes_up" "HalfUp.goes_up" sU4)(ib:Fb K W4 "to_end" "HalfUp.to_end" sT4)(cm:Fb K W5 "goes_up" "HalfDown.goes_up" sU5)(ic:Fb K W5 "to_end" "HalfDown.to_end" sT5)(cn:Fb K W6 "goes_up" "HalfEven.goes_up" sU6)(ie:Fb K W6 "to_end" "HalfEven.to_end" sT6)(cq:Fb K W7 "goes_up" "FiveUp.goes_up" sU7)(ig:Fb K W7 "to_end" "FiveUp.to_end" sT7)(G9v:nsIn K mainGlobals "Context"=some (some (.ref CC)))(D6j:Cls K CC)(D8c:makesIn K CC=true)(D4q:keepIn K (.ref CC)=true)(A9s:findIn K (.ref CC) "room"=some none)(A9w:findIn K (.ref CC) "rule"=some none)(A6q:findIn K (.ref CC) "least"=some none)(A9u:findIn K (.ref CC) "most"=some none)(A6p:findIn K (.ref CC) "risen"=some none)(A3x:findIn K (.ref CC) "trapped"=some none)(D8m:findIn K (.ref CC) "__init__"=some (some (.ref B3d)))(D8z:isFn K (.ref B3d)=true){J0b C3f:Option Addr}{J0r:Array (Option Value)}{J0y C3j C3k C3g B7r C3h:Value}(D4z:K.lookup B3d=some ⟨J0y,J0b,.func (fnOf "__init__" "Context.__init__" (J9 Z3) (G8 Z3) (A4 Z3) (.ref C5y) C3j C3k C3g C3f B7r C3h),J0r⟩)(D5z:codeIn K B7r "Context.__init__"=true)(D9b:keepIn K (.ref B3d)=true){D8q D9c D6d:Tok}{J5q:Nat}{J0n:Option Addr}{G9d:Value}{J0c:Array (Option Value)}(C5x:K.lookup C5y=some ⟨G9d,J0n,.seq #[.int 9 D8q,.str "half even" D9c,.none,.int 60 D6d] J5q,J0c⟩)(jx:Fb K CC "flags" "Context.flags" A8q)(ii:Fb K CC "lowest" "Context.lowest" B7g)(ow:Fb K CC "way" "Context.way" B6t)(ij:Fb K CC "raised" "Context.raised" A6m)(jy:Fb K CC "clear" "Context.clear" A9d)(J0p:nsIn K mainGlobals "Ratio"=some (some (.ref CQ)))(D4n:Cls K CQ)(D5c:makesIn K CQ=true)(D5s:keepIn K (.ref CQ)=true)(D6n:findIn K (.ref CQ) "__class__"=some (some (.builtin "object.__class__")))(D4y:mroIn K CQ (.type "object")=some true)(B3c:findIn K (.ref CQ) "top"=some none)(A4z:findIn K (.ref CQ) "bottom"=some none)(A6s:findIn K (.ref CQ) "power"=some none)(D4w:findIn K (.ref CQ) "__init__"=some (some (.ref B5f)))(D8p:isFn K (.ref B5f)=true){G9n D7q:Option Addr}{G9u:Array (Option Value)}{G9z D5b D5g D7x C3m D5x:Value}(D6k:K.lookup B5f=some ⟨G9z,G9n,.func (fnOf "__init__" "Ratio.__init__" (J9 A3h) (G8 A3h) (A4 A3h) (.ref D4t) D5b D5g D7x D7q C3m D5x),G9u⟩)(D7u:codeIn K C3m "Ratio.__init__"=true)(D7m:keepIn K (.ref B5f)=true){G4d:Tok}{J5h:Nat}{G9g:Option Addr}{J1b:Value}{J0z:Array (Option Value)}(C0c:K.lookup D4t=some ⟨J1b,G9g,.seq #[.int 0 G4d] J5h,J0z⟩)(jz:Fb K CQ "first" "Ratio.first" A7a)(qi:Fb K CQ "at" "Ratio.at" C4q)(J0h:nsIn K mainGlobals "Exact"=some (some (.ref CE)))(D9e:kitOne K (.ref CQ) (.ref CE)=some true)(G3e:nsIn K mainGlobals "BadContext"=some (some (.ref C1)))(G9y:nsIn K mainGlobals "BadNumber"=some (some (.ref C2)))(G3g:nsIn K mainGlobals "NoText"=some (some (.ref C3)))(G3f:nsIn K mainGlobals "BadCount"=some (some (.ref C4)))(G3d:nsIn K mainGlobals "Trapped"=some (some (.ref C5)))(J5u:nsIn K mainGlobals "ReckonError"=some (some (.ref CR)))(cty:typeIn K (.ref CR)=some (.type "type")){dR:ClassData}(ccl:clsIn K CR=some dR)(cex:subIn K (.ref CR) (.type "BaseException")=some true)(sub5:subIn K (.ref C5) (.ref CR)=some true)(xga5:findIn K (.ref C5) "__getattribute__"=some (some (.builtin "BaseException.__getattribute__")))(xgh5:findIn K (.ref C5) "__getattr__"=some none)(xca5:findIn K (.ref C5) "__class__"=some (some (.builtin "object.__class__")))(xob5:mroIn K C5 (.type "object")=some true)(xbe5:subIn K (.ref C5) (.type "BaseException")=some true){d5:ClassData}(xcl5:clsIn K C5=some d5)(J5c:kitOne K (.ref C5) (.ref C1)=some false)(J5g:kitOne K (.ref C5) (.ref C2)=some false)(J4y:kitOne K (.ref C5) (.ref C3)=some false)(J5w:kitOne K (.ref C5) (.ref C4)=some false)(J6a:kitOne K (.ref C5) (.ref C5)=some true)(hv5:kitOne K (.ref C5) (.type "ValueError")=some true){nmT qT:Str}{NT:Addr}{bsT bmT:List Value}{snT:List Str}{suT:List Value}{abT:Bool}{coT:Option Bool}{ddT:Option Addr}{kT0 kT1 kT2 kT3 kT5:Option Value}(lT:K.lookup C5=some (excClassObj nmT qT C5 NT bsT bmT true snT suT abT coT ddT kT0 kT1 kT2 kT3 kT5 "ValueError.__new__")){ocN:Value}{odN:Option Addr}{esN:Array DictEntry}{epN:Nat}{slN:Array (Option Value)}(lN:K.lookup NT=some ⟨ocN,odN,.dict esN epN,slN⟩)(alN:(esN.all fun e=>match e.key with| .str _ _=>true|_=>false)=true)(niT:nsIn K NT "__init__"=some (some (.ref fX))){nmU qU:Str}{NU:Addr}{bsU:List Value}{snU:List Str}{suU:List Value}{abU:Bool}{coU:Option Bool}{ddU:Option Addr}{kU0 kU1 kU2 kU3 kU5:Option Value}(lT1:K.lookup C1=some (excClassObj nmU qU C1 NU bsU bmT true snU suU abU coU ddU kU0 kU1 kU2 kU3 kU5 "ValueError.__new__"))(saT:findIn K (.ref C5) "__setattr__"=some (some (.builtin "object.__setattr__")))(nsg5:findIn K (.ref C5) "signal"=some none){J5a J4w:Option Addr}{J5f:Array (Option Value)}{G4c J5x J5t J5s G4e J5r:Value}(G3h:K.lookup fX=some ⟨G4c,J5a,.func (fnOf "__init__" "Trapped.__init__" (J9 A5q) (G8 A5q) (A4 A5q) .none J5x J5t J5s J4w G4e J5r),J5f⟩)(G9h:codeIn K G4e "Trapped.__init__"=true)(G9x:keepIn K (.ref fX)=true)(fcT:G4c= .type "function")(kTR:kitOne K (.ref C5) (.ref CR)=some true)(q1:excIn K C1 [.type "ValueError",.type "Exception",.type "BaseException",.type "object"] "ValueError.__new__"=true)(q2:excIn K C2 [.type "ValueError",.type "Exception",.type "BaseException",.type "object"] "ValueError.__new__"=true)(q3:excIn K C3 [.type "ValueError",.type "Exception",.type "BaseException",.type "object"] "ValueError.__new__"=true)(q4:excIn K C4 [.type "ValueError",.type "Exception",.type "BaseException",.type "object"] "ValueError.__new__"=true)(a_S:nsIn K mainGlobals "SIGNALS"=some (some (.ref aS))){u0 u1 u2 u3 u4 u5 u6:Tok}{nS:Nat}{odS:Option Addr}{slS:Array (Option Value)}(lS:K.lookup aS=some ⟨.type "tuple",odS,.seq #[.str "void" u0,.str "split" u1,.str "burst" u2,.str "sunk" u3,.str "faint" u4,.str "off" u5,.str "cut" u6] nS,slS⟩)(m8:Fb K CC "trap" "Context.trap" B2s)(j_:Fb K CC "traps" "Context.traps" A9e)(tyT:typeIn K (.ref C5)=some (.type "type"))(subT:subIn K (.ref C5) (.ref C5)=some true)(cty1:typeIn K (.ref C1)=some (.type "type")){dR1:ClassData}(ccl1:clsIn K C1=some dR1)(cex1:subIn K (.ref C1) (.type "BaseException")=some true)(cty3:typeIn K (.ref C3)=some (.type "type")){dR3:ClassData}(ccl3:clsIn K C3=some dR3)(cex3:subIn K (.ref C3) (.type "BaseException")=some true)(cty4:typeIn K (.ref C4)=some (.type "type")){dR4:ClassData}(ccl4:clsIn K C4=some dR4)(cex4:subIn K (.ref C4) (.type "BaseException")=some true)(s33:subIn K (.ref C3) (.ref C3)=some true)(s43:subIn K (.ref C4) (.ref C3)=some false)(s44:subIn K (.ref C4) (.ref C4)=some true)(s13:subIn K (.ref C1) (.ref C3)=some false)(s14:subIn K (.ref C1) (.ref C4)=some false)(s11:subIn K (.ref C1) (.ref C1)=some true)(s53:subIn K (.ref C5) (.ref C3)=some false)(s54:subIn K (.ref C5) (.ref C4)=some false)(s51:subIn K (.ref C5) (.ref C1)=some false)(G9p:nsIn K mainGlobals "Desk"=some (some (.ref CD)))(D7e:Cls K CD)(D7p:makesIn K CD=true)(D8j:keepIn K (.ref CD)=true)(A3y:findIn K (.ref CD) "context"=some none)(D7k:findIn K (.ref CD) "__init__"=some (some (.ref B5g)))(D8v:isFn K (.ref B5g)=true){J0e J0w:Option Addr}{G9k:Array (Option Value)}{J0g G9j G9e G9f D6u J0d:Value}(D7b:K.lookup B5g=some ⟨J0g,J0e,.func (fnOf "__init__" "Desk.__init__" (J9 A1s) (G8 A1s) (A4 A1s) .none G9j G9e G9f J0w D6u J0d),G9k⟩)(D7c:codeIn K D6u "Desk.__init__"=true)(D9f:keepIn K (.ref B5g)=true)(a_N:nsIn K mainGlobals "NUMBERS_OF"=some (some (.ref aN))){g0 h0 g1 h1 g2 h2 g3 h3 g4 h4 g5 h5 g6 h6 g7 h7 g8 h8 g9 h9 g10 h10 g11 h11 g12 h12 g13 h13 g14 h14 g15 h15:Tok}{epG:Nat}(lG:K.lookup aN=some ⟨.type "dict",none,.dict #[⟨PyData.keyHash w.params "plus",.str "plus" g0,.int 2 h0⟩,⟨PyData.keyHash w.params "minus",.str "minus" g1,.int 2 h1⟩,⟨PyData.keyHash w.params "times",.str "times" g2,.int 2 h2⟩,⟨PyData.keyHash w.params "fused",.str "fused" g3,.int 3 h3⟩,⟨PyData.keyHash w.params "over",.str "over" g4,.int 2 h4⟩,⟨PyData.keyHash w.params "whole over",.str "whole over" g5,.int 2 h5⟩,⟨PyData.keyHash w.params "rest",.str "rest" g6,.int 2 h6⟩,⟨PyData.keyHash w.params "root",.str "root" g7,.int 1 h7⟩,⟨PyData.keyHash w.params "same power",.str "same power" g8,.int 2 h8⟩,⟨PyData.keyHash w.params "to whole",.str "to whole" g9,.int 1 h9⟩,⟨PyData.keyHash w.params "trimmed",.str "trimmed" g10,.int 1 h10⟩,⟨PyData.keyHash w.params "next up",.str "next up" g11,.int 1 h11⟩,⟨PyData.keyHash w.params "next down",.str "next down" g12,.int 1 h12⟩,⟨PyData.keyHash w.params "lesser",.str "lesser" g13,.int 2 h13⟩,⟨PyData.keyHash w.params "greater",.str "greater" g14,.int 2 h14⟩,⟨PyData.keyHash w.params "compare",.str "compare" g15,.int 2 h15⟩] epG, #[]⟩)(nsG:(aN==sysModules)=false):∃fd:FuncData,(∀(s:Shared) (v:Value),BindsTo s fd ⟨[v],[]⟩ [("_law_script",v)])/\∀base:Heap,K.In base ->base.Ns mainGlobals mg ->A9 l.prog w K mg base (CX1 l.prog w) 18 fa fd ["_law_script"] (C5n K):=by
 have e:=hfa.symm.trans (mg_of X G C5w)
 cases e
 obtain⟨ro,_,ao⟩:=g_.go2 X G
 obtain⟨w9,_,ac⟩:=p9.go1 X G
 obtain⟨wa,_,je⟩:=pc.go3 X G
 obtain⟨xj,_,ay⟩:=tm.go1 X G
 obtain⟨ue,_,aa⟩:=ky.go0 X G
 obtain⟨wz,_,cr⟩:=qo.go1 X G
 obtain⟨wb,_,af⟩:=pf.go1 X G
 obtain⟨tu,_,ag⟩:=jt.go1 X G
 obtain⟨wd,_,am⟩:=ph.go2 X G
 obtain⟨v7,_,av⟩:=o5.go2 X G
 obtain⟨uf,_,bd⟩:=kz.go2 X G
 obtain⟨xk,_,c9⟩:=tq.go3 X G
 obtain⟨ug,_,bh⟩:=k_.go3 X G
 obtain⟨we,_,b7⟩:=pi.go2 X G
 obtain⟨v8,_,cu⟩:=o6.go2 X G
 obtain⟨wf,_,jf⟩:=pj.go1 X G
 obtain⟨uh,_,aj⟩:=l0.go4 X G
 obtain⟨v9,_,cy⟩:=o7.go2 X G
 obtain⟨ui,_,bi⟩:=l5.go4 X G
 obtain⟨rp,_,ap⟩:=h_.go3 X G
 obtain⟨va,_,cz⟩:=o8.go4 X G
 obtain⟨vb,_,c_⟩:=o9.go2 X G
 obtain⟨wg,_,jg⟩:=pk.go2 X G
 obtain⟨wj,_,jh⟩:=pp.go2 X G
 obtain⟨uj,_,bj⟩:=l6.go2 X G
 obtain⟨uk,_,bp⟩:=l7.go3 X G
 obtain⟨vc,_,ah⟩:=oe.go3 X G
 obtain⟨w_,_,m9⟩:=qp.go1 X G
 obtain⟨wk,_,ji⟩:=pq.go2 X G
 obtain⟨wm,_,b8⟩:=px.go1 X G
 obtain⟨ul,_,bq⟩:=l8.go3 X G
 obtain⟨wn,_,b9⟩:=pz.go1 X G
 obtain⟨wo,_,bc⟩:=p_.go1 X G
 obtain⟨x0,_,ma⟩:=qq.go3 X G
 obtain⟨x9,_,md⟩:=qr.go2 X G
 obtain⟨xa,_,mh⟩:=qt.go4 X G
 obtain⟨vd,_,d3⟩:=og.go3 X G
 obtain⟨wp,_,jj⟩:=qa.go3 X G
 obtain⟨xb,_,mi⟩:=qu.go3 X G
 obtain⟨wq,_,jk⟩:=qb.go3 X G
 obtain⟨tz,_,k7⟩:=ju.go3 X G
 obtain⟨wt,_,jm⟩:=qc.go3 X G
 obtain⟨um,_,ak⟩:=l9.go1 X G
 obtain⟨ve,_,d7⟩:=oh.go1 X G
 obtain⟨rq,_,aq⟩:=i0.go2 X G
 obtain⟨t_,_,az⟩:=jv.go2 X G
 obtain⟨xc,_,d8⟩:=qv.go1 X G
 obtain⟨vf,_,aw⟩:=oj.go1 X G
 obtain⟨vg,_,ax⟩:=ol.go1 X G
 obtain⟨rz,_,ar⟩:=i4.go2 X G
 obtain⟨uo,_,bu⟩:=la.go1 X G
 obtain⟨r_,_,au⟩:=i5.go1 X G
 obtain⟨uq,_,al⟩:=lc.go1 X G
 obtain⟨vh,_,da⟩:=om.go1 X G
 obtain⟨vi,_,db⟩:=on.go1 X G
 obtain⟨vj,_,dc⟩:=oo.go2 X G
 obtain⟨u7,_,a_⟩:=jw.go2 X G
 obtain⟨wu,_,jn⟩:=qd.go3 X G
 obtain⟨xf,_,mj⟩:=qw.go3 X G
 obtain⟨ur,_,bv⟩:=le.go3 X G
 obtain⟨sf,_,ae⟩:=i6.go1 X G
 obtain⟨xg,_,mn⟩:=qx.go2 X G
 obtain⟨wv,_,jo⟩:=qe.go4 X G
 obtain⟨xh,_,mo⟩:=qy.go2 X G
 obtain⟨ww,_,jp⟩:=qf.go2 X G
 obtain⟨vk,_,oz⟩:=oq.go1 X G
 obtain⟨wx,_,qj⟩:=qg.go1 X G
 obtain⟨wy,_,qk⟩:=qh.go1 X G
 obtain⟨xi,_,q_⟩:=qz.go1 X G
 obtain⟨vm,_,df⟩:=ou.go1 X G
 have J4v:=A8x (ps:=["_law_script"]) (st:=B5t) X G C5w D6y D4k D7z fun _ _ _ _ _ _ us hl=>match us,hl with| [_],_=>rfl
 have O:Own mg:=tt.go X G
 have J5b:Mk0 K W0:=⟨D7t,D5a,D5k⟩
 obtain⟨ut,_,mq,mv,k8⟩:=lh.go1
 have WC0:B0m K mg "Down" W0 CW:=⟨mg_of X G G9c,D6t,J5b,D4p,sn,tk,D5t,D5u⟩
 have J5j:Mk0 K W1:=⟨D6w,D5d,D8k⟩
 obtain⟨uu,_,mw,mx,k9⟩:=li.go1
 have WC1:B0m K mg "Up" W1 CW:=⟨mg_of X G J0j,D7y,J5j,D5m,sn,tk,D4v,D8y⟩
 have J5k:Mk0 K W2:=⟨D7f,D5n,D5f⟩
 obtain⟨uw,_,my,mz,ka⟩:=lj.go1
 have WC2:B0m K mg "Floor" W2 CW:=⟨mg_of X G J0u,D9a,J5k,D7a,sn,tk,D9d,D5w⟩
 have J5e:Mk0 K W3:=⟨D8e,D5q,D5p⟩
 obtain⟨ux,_,m_,n8,kb⟩:=lu.go1
 have WC3:B0m K mg "Ceiling" W3 CW:=⟨mg_of X G G9w,D6p,J5e,D8b,sn,tk,D5r,D6s⟩
 have J5z:Mk0 K W4:=⟨D5h,D8n,D6a⟩
 obtain⟨uy,_,n9,nh,kc⟩:=lv.go1
 have WC4:B0m K mg "HalfUp" W4 CW:=⟨mg_of X G J0f,D5y,J5z,D7n,sn,tk,D6z,D6c⟩
 have J5p:Mk0 K W5:=⟨D8d,D6e,D6b⟩
 obtain⟨uz,_,ni,nj,kd⟩:=l_.go1
 have WC5:B0m K mg "HalfDown" W5 CW:=⟨mg_of X G G9q,D5v,J5p,D9g,sn,tk,D8x,D6v⟩
 have J5d:Mk0 K W6:=⟨D8t,D4s,D8a⟩
 obtain⟨u_,_,nk,nt,ke⟩:=m6.go1
 have WC6:B0m K mg "HalfEven" W6 CW:=⟨mg_of X G J0a,D8g,J5d,D6g,sn,tk,D7g,D6f⟩
 have J5n:Mk0 K W7:=⟨D7w,D8r,D6x⟩
 obtain⟨v5,_,nu,ny,kf⟩:=m7.go1
 have WC7:B0m K mg "FiveUp" W7 CW:=⟨mg_of X G J0v,D7v,J5n,D7r,sn,tk,D8w,D8h⟩
 let cw:Wy ->Addr:=fun y=>match y with| .down=>W0| .up=>W1| .floor=>W2| .ceiling=>W3| .halfUp=>W4| .halfDown=>W5| .halfEven=>W6| .fiveUp=>W7
 have W:∀y:Wy,B0m K mg y.cls (cw y) CW:=fun y=>match y with| .down=>WC0| .up=>WC1| .floor=>WC2| .ceiling=>WC3| .halfUp=>WC4| .halfDown=>WC5| .halfEven=>WC6| .fiveUp=>WC7
 have p6:=A1v (st:=B3v) D7h D4r D6m
 have J5y:=p6.binds (ps:=["self","kind","sign","figures","power"]) fun _ _ _ _ _ _ us hl=>match us,hl with| [_,_,_,_,_],_=>rfl
 have J8p:Mk K CN B5h:=⟨D7s,D8u,D7j,D8f⟩
 have N:Num K mg CN:=⟨mg_of X G G9b,D4x,A9v,A9t,A3w,A6r,D7d,sn,tk,D4u,B7q⟩
 obtain⟨r8,_,dg,di,bw⟩:=cb.go4
 obtain⟨sj,_,ik,il,dj⟩:=i7.go2
 obtain⟨rb,_,dk,dm,bx⟩:=cf.go4
 obtain⟨sk,_,im,io,du⟩:=i8.go2
 obtain⟨rc,_,dv,dw,bz⟩:=cg.go4
 obtain⟨sv,_,ip,iq,dy⟩:=i9.go2
 obtain⟨rd,_,dz,d_,b_⟩:=ci.go4
 obtain⟨sy,_,ir,iu,eh⟩:=ia.go2
 obtain⟨re,_,e_,gb,c5⟩:=cj.go4
 obtain⟨s_,_,iw,iy,gc⟩:=ib.go2
 obtain⟨rg,_,gd,gi,c6⟩:=cm.go4
 obtain⟨t7,_,iz,i_,gj⟩:=ic.go2
 obtain⟨ri,_,gk,gl,c7⟩:=cn.go4
 obtain⟨t8,_,j0,j3,gn⟩:=ie.go2
 obtain⟨rj,_,gp,gq,c8⟩:=cq.go4
 obtain⟨t9,_,j4,j5,gu⟩:=ig.go2
 have J5v:=C4h (st:=Z3) D4z D5z D9b
 have J8q:Mk K CC B3d:=⟨D8c,D8m,D8z,D4q⟩
 obtain⟨u8,_,kg,kh,j6⟩:=jx.go1
 obtain⟨tf,_,j7,j8,gv⟩:=ii.go1
 obtain⟨vn,_,o_,p4,n_⟩:=ow.go1
 obtain⟨tj,_,j9,ja,gw⟩:=ij.go2
 obtain⟨u9,_,ki,kj,jb⟩:=jy.go1
 have J4z:=C4h (st:=A3h) D6k D7u D7m
 have J8r:Mk K CQ B5f:=⟨D5c,D4w,D8p,D5s⟩
 obtain⟨kl,_,km,kn,jc⟩:=jz.go1
 obtain⟨ql,_,qm,jq,gy⟩:=qi.go2
 have xk5:C3c K C5:=⟨xga5,xgh5,xca5,sn,tk,xob5,xbe5,by rw[xcl5];rfl⟩
 have nkT:nsOkIn K NT=true:=by unfold nsOkIn;rw[lN];exact alN
 have tlT:tailIn K C4p bmT=true:=by
   have z:=q1
   unfold excIn at z
   rw[lT1] at z
   simp only[excClassObj,Bool.and_eq_true] at z
   exact z.1.1.2
 have rk:=A1v (st:=A5q) G3h G9h G9x
 have J8n:=rk.binds (ps:=["self","signal"]) fun _ _ _ _ _ _ us hl=>match us,hl with| [_,_],_=>rfl
 have XI5:C8m K C5 fX:=⟨⟨_,_,_,_,_,_,_,_,_,_,_,_,_,_,_,lT,nkT,niT,tlT⟩,⟨_,G3h,fcT⟩,saT,xob5⟩
 have SG:G8x K mg aS:=⟨mg_of X G a_S,⟨_,lS,rfl⟩,fun H=> .inr ⟨_,_,_,lS,rfl,rfl,B8 (by show 7<=1000;decide),.cons ⟨_,rfl⟩ (.cons ⟨_,rfl⟩ (.cons ⟨_,rfl⟩ (.cons ⟨_,rfl⟩ (.cons ⟨_,rfl⟩ (.cons ⟨_,rfl⟩ (.cons ⟨_,rfl⟩ (.nil)))))))⟩⟩
 obtain⟨v6,_,o0,o4,ko⟩:=m8.go2
 obtain⟨ua,_,kq,kt,jd⟩:=j_.go1
 have p7:=A1v (st:=A1s) D7b D7c D9f
 have J4x:=p7.binds (ps:=["self"]) fun _ _ _ _ _ _ us hl=>match us,hl with| [_],_=>rfl
 have J8m:Mk K CD B5g:=⟨D7p,D7k,D8v,D8j⟩
 have C:B0n K mg CC:=⟨mg_of X G G9v,D6j,A9s,A9w,A6q,A9u,A6p,A3x⟩
 have B1:Err K mg "BadContext" C1:=⟨mg_of X G G3e,q1⟩
 have B2:Err K mg "BadNumber" C2:=⟨mg_of X G G9y,q2⟩
 have B3:Err K mg "NoText" C3:=⟨mg_of X G G3g,q3⟩
 have B4:Err K mg "BadCount" C4:=⟨mg_of X G G3f,q4⟩
 have R:B9y K mg CQ CE:=⟨mg_of X G J0p,mg_of X G J0h,D4n,B3c,A4z,A6s,D6n,sn,tk,D4y,D9e⟩
 have b4:=B5z (fd:=fnOf "__init__" "Context.__init__" (J9 Z3) (G8 Z3) (A4 Z3) (.ref C5y) C3j C3k C3g C3f B7r C3h) (ps:=["self","room","way","least","most"]) (ds:=[]) rfl C5x rfl fun us hl=>by obtain⟨a,b,c,d,e,rfl⟩:=J7a (D1b hl);exact⟨_,rfl,rfl⟩
 refine⟨fnOf "law" "law" (J9 B5t) (G8 B5t) (A4 B5t) .none D8s D5e D4m D6r C3e D6q,fun s v=> .of_eq rfl,fun base _ _=>?_⟩
 have WN:∀y:Wy,G2m l.prog w K mg base (cw y) y.name:=fun y=>match y with| .down=>⟨_,_,k8,J3p mq,mv⟩| .up=>⟨_,_,k9,J3s mw,mx⟩| .floor=>⟨_,_,ka,J3j my,mz⟩| .ceiling=>⟨_,_,kb,J2s m_,n8⟩| .halfUp=>⟨_,_,kc,J3k n9,nh⟩| .halfDown=>⟨_,_,kd,J3w ni,nj⟩| .halfEven=>⟨_,_,ke,J4r nk,nt⟩| .fiveUp=>⟨_,_,kf,J4f nu,ny⟩
 have U:∀y:Wy,J4k l.prog w K mg base (cw y) y:=fun y=>match y with| .down=>⟨_,_,bw,J4g dg,di⟩| .up=>⟨_,_,bx,J1w dk,dm⟩| .floor=>⟨_,_,bz,J3v dv,dw⟩| .ceiling=>⟨_,_,b_,J2c dz,d_⟩| .halfUp=>⟨_,_,c5,J1c e_,gb⟩| .halfDown=>⟨_,_,c6,J1r gd,gi⟩| .halfEven=>⟨_,_,c7,J1p gk,gl⟩| .fiveUp=>⟨_,_,c8,J3m gp,gq⟩
 have E2:∀y:Wy,J4j l.prog w K mg base (cw y) y:=fun y=>match y with| .down=>⟨_,_,dj,J4q ik,il⟩| .up=>⟨_,_,du,J2m im,io⟩| .floor=>⟨_,_,dy,J1s ip,iq⟩| .ceiling=>⟨_,_,eh,J2y ir,iu⟩| .halfUp=>⟨_,_,gc,J3u iw,iy⟩| .halfDown=>⟨_,_,gj,J2r iz,i_⟩| .halfEven=>⟨_,_,gn,J1t j0,j3⟩| .fiveUp=>⟨_,_,gu,J2e j4,j5⟩
 have Gb:=C0y (P:=l.prog) (w:=w) (base:=base) bq c9 O T B1
 have Gw:=D1m (P:=l.prog) (w:=w) (base:=base) b8 O T B1 W
 have MC:D4g l.prog w K mg base CC C1 B3d _:=⟨J8q,C2m J5v bq b8 Gb Gw C W WN⟩
 have MR : D4h l.prog w K mg base CQ B5f (fnOf "__init__" "Ratio.__init__" (J9 A3h) (G8 A3h) (A4 A3h) (.ref D4t) D5b D5g D7x D7q C3m D5x) (.int 0 G4d) (fun us ws=>match ws with| [a]=>us++ [a]|_=>[]) (fun us ws=>match ws with| [a]=>us++ [a]|_=>[]):=
   { m :=J8r
     g:=D3n J4z R
     b3:=B5z rfl C0c rfl fun us hl=>by obtain⟨a,b,c,d,rfl⟩:=J4c (D1b hl);exact⟨_,rfl,rfl⟩
     b2:=B5z rfl C0c rfl fun us hl=>by obtain⟨a,b,c,rfl⟩:=G6u (D1b hl);exact⟨_,rfl,rfl⟩
     r0:=⟨_,rfl⟩
     kP := ⟨(fun s us ws XK hl=>by
         rcases ws with _|⟨p,_|⟨q,t⟩⟩
         . cases hl
         . obtain⟨a,b,c,rfl⟩:=G6u (D1b hl)
           exact binds_K XK rfl C0c rfl rfl rfl
         . cases hl),fun r z=>match z with
       | .cons a .nil=>r.append (.cons a .nil)
       | .nil=> .nil
       | .cons _ (.cons _ _)=> .nil⟩
     eP:=fun _ _ _ _=>rfl}
 have M:B0g l.prog w K mg base CN B5h _:=⟨J8p,G2u p6 N,J5y⟩
 have Gn:=D4e (P:=l.prog) (w:=w) (base:=base) b9 O T B1 SG
 have Go:=C9n (P:=l.prog) (w:=w) (base:=base) bc SG
 have GX:=C7r (P:=l.prog) (w:=w) (mg:=mg) (base:=base) rk XI5 nsg5
 have MF:Has l.prog w K mg base CC "flags" 1 ["self"] (A3d CC):=⟨_,_,j6,B8n kg C O,kh⟩
 have ML:Has l.prog w K mg base CC "lowest" 1 ["self"] (B2p CC):=⟨_,_,gv,C7y j7 C,j8⟩
 have MW:Has l.prog w K mg base CC "way" 2 ["self"] (B1x CC cw):=⟨_,_,n_,C6c o_ b8 Gw C,p4⟩
 have ME:Has l.prog w K mg base CC "clear" 1 ["self"] (A6k CC):=⟨_,_,jb,B9c ki C,kj⟩
 have MD:Has l.prog w K mg base CC "raised" 3 ["self","names"] (B1g K CC C1 C5):=⟨_,_,gw,C6h j9 b9 Gn bc Go C (mg_of X G G3d) XI5 GX J8n,ja⟩
 have CM:A5v l.prog w K mg base CC C1 C5 CW cw:=⟨C,MW,ML,MD,W,U,E2⟩
 have b6:=D2c (P:=l.prog) (w:=w) (base:=base) af O T B2 N
 have rm:=D0m (P:=l.prog) (w:=w) (base:=base) je bh c9 O T B2 N M
 have ku:=G6r (P:=l.prog) (w:=w) (base:=base) ay bh c9 O T B2 N M
 have ai:=C1d (P:=l.prog) (w:=w) (base:=base) aa N M
 have p8:=G1w (P:=l.prog) (w:=w) (base:=base) cr O N
 have Gto:=D3y (P:=l.prog) (w:=w) (base:=base) ac ao (B6j ao)
 have ub:=C7v (P:=l.prog) (w:=w) (base:=base) cu
 have Gwl:=D2v (P:=l.prog) (w:=w) (base:=base) jf ac Gto
 have Gat:=G8j (P:=l.prog) (w:=w) (base:=base) qm ac Gto cu ub R O
 have RM:G8y l.prog w K mg base CQ kl ql _ _:=⟨jc,C8d km jf Gwl gy Gat jq R,kn,gy,Gat,jq⟩
 have vo:=C1v (P:=l.prog) (w:=w) (base:=base) bi N M
 have vp:=B5n (P:=l.prog) (w:=w) (base:=base) ap CM
 have vq:=C8b (P:=l.prog) (w:=w) (base:=base) cz ac Gto CM N M
 have vr:=C7d (P:=l.prog) (w:=w) (base:=base) c_ cr p8 CM N
 have vt:=D2y (P:=l.prog) (w:=w) (base:=base) jh ac Gto CM N M
 have vv:=D1u (P:=l.prog) (w:=w) (base:=base) jg jh vt ay ku CM
 have Gsr:=C1z (P:=l.prog) (w:=w) (base:=base) bj
 have Gsl:=C2f (P:=l.prog) (w:=w) (base:=base) bp CM
 have p5:=C7a (P:=l.prog) (w:=w) (base:=base) ah CM N M O
 have vw:=C6f (P:=l.prog) (w:=w) (base:=base) cy CM RM R O
 have rn:=C1m (P:=l.prog) (w:=w) (base:=base) aj cy vw bi vo ap vp cz vq c_ vr jg vv bj Gsr bp Gsl CM RM R N
 have MT:Has l.prog w K mg base CC "trap" 2 ["self","names"] (B6w K CC C1):=⟨_,_,ko,G2n o0 b9 Gn bc Go C,o4⟩
 have MTS:Has l.prog w K mg base CC "traps" 1 ["self"] (A6c CC):=⟨_,_,jd,B9p kq C O,kt⟩
 have DC:B9z K mg CD:=⟨mg_of X G G9p,D7e,A3y⟩
 have GD:C0b l.prog w K aN NUM:=C8e lG nsG
 have XE:G3z K mg C3 C1 C4 C5:={g2:=mg_of X G G3g,g4:=mg_of X G G3f,g3:=mg_of X G G3e,gT:=mg_of X G G3d,c2:=⟨cty3,by rw[ccl3];rfl,cex3⟩,c4:=⟨cty4,by rw[ccl4];rfl,cex4⟩,c3:=⟨cty1,by rw[ccl1];rfl,cex1⟩,cT:=⟨tyT,by unfold clsIn;rw[lT];rfl,xbe5⟩,s22:=s33,s42:=s43,s44:=s44,s32:=s13,s34:=s14,s33:=s11,t2:=s53,t4:=s54,t3:=s51,tT:=subT,k:=xk5,dict:=⟨_,by unfold clsIn;rw[lT],rfl⟩,nosig:=nsg5}
 have b0:=B5z (fd:=fnOf "__init__" "Context.__init__" (J9 Z3) (G8 Z3) (A4 Z3) (.ref C5y) C3j C3k C3g C3f B7r C3h) (ps:=["self","room","way","least","most"]) (ds:=[.int 9 D8q,.str "half even" D9c,.none,.int 60 D6d]) rfl C5x rfl fun us hl=>by obtain⟨a,rfl⟩:=J7c (D1b hl);exact⟨_,rfl,rfl⟩
 have M0:G4a l.prog w K mg base CC C1 B3d _ (.int 9 D8q) (.str "half even" D9c) (.int 60 D6d):=⟨MC,b0,⟨_,rfl⟩,⟨_,rfl⟩,⟨_,rfl⟩⟩
 have MDk:G3y l.prog w K mg base CD CC B5g _:=⟨J8m,B9v p7 M0 DC C,J4x⟩
 have jr:=C7b (P:=l.prog) (w:=w) (base:=base) ag af b6
 have gz:=D0g (P:=l.prog) (w:=w) (base:=base) am O N
 have Gun:=C6w (P:=l.prog) (w:=w) (base:=base) av N
 have Gvo:=G2r (P:=l.prog) (w:=w) (base:=base) m9 aa ai CM
 have Gsp:=D0r (P:=l.prog) (w:=w) (base:=base) ji ay ku CM
 have vx:=G1n (P:=l.prog) (w:=w) (base:=base) mh av Gun m9 Gvo ay ku ah p5 ji Gsp N
 have Gov:=G1c (P:=l.prog) (w:=w) (base:=base) ma ag jr am gz md (G1e md N) mh vx av Gun ah p5 aj rn aa ai CM N MR R
 have Gwa:=C2t (P:=l.prog) (w:=w) (base:=base) bd ac Gto N
 have vy:=D2r (P:=l.prog) (w:=w) (base:=base) jm CM WN N
 have vz:=D0e (P:=l.prog) (w:=w) (base:=base) jk am gz k7 bd Gwa ah p5 jm vy aj rn CM N MR R O
 have uc:=D9y (P:=l.prog) (w:=w) (base:=base) mi ag jr am gz aa ai jk vz
 have Gsg:=C7q (P:=l.prog) (w:=w) (base:=base) aw
 have Gns:=C5z (P:=l.prog) (w:=w) (base:=base) ax
 have Gnf:=C0v (P:=l.prog) (w:=w) (base:=base) al da B3
 have Gfr:=C3a (P:=l.prog) (w:=w) (base:=base) bu al Gnf B3 O
 have Gsh:=B7k (P:=l.prog) (w:=w) (base:=base) au al Gnf ax Gns aw Gsg B3 O
 have Gpr:=B5u (P:=l.prog) (w:=w) (base:=base) ar bu Gfr au Gsh je rm O
 have Grd:=G2j (P:=l.prog) (w:=w) (base:=base) d8 aa ai ax Gns aw Gsg ay ku ar Gpr B3 O T
 have Gwp:=B7n (P:=l.prog) (w:=w) (base:=base) aq O
 have v_:=B8t (P:=l.prog) (w:=w) (base:=base) az O
 have Gww:=C7s (P:=l.prog) (w:=w) (base:=base) d7 cr p8 aq Gwp az v_ N O
 have Gwr:=C1j (P:=l.prog) (w:=w) (base:=base) ak af b6 d7 Gww N
 have Gnc:=D2h (P:=l.prog) (w:=w) (base:=base) b7 c9 O T B4
 have Gcr:=B6z (P:=l.prog) (w:=w) (base:=base) ae da B4 O
 have Gpn:=C0g (P:=l.prog) (w:=w) (base:=base) jj af b6 b7 Gnc T
 have w4:=B7u (P:=l.prog) (w:=w) (base:=base) d3 af b6 b7 Gnc T
 have w6:=G0u (P:=l.prog) (w:=w) (base:=base) mj C MF ME MT T
 have Gch:=D0t (P:=l.prog) (w:=w) (base:=base) jn ae Gcr DC CM WN MC b4 MF MT MTS T O
 have Gcd:=C2n (P:=l.prog) (w:=w) (base:=base) (C3:=C1) bv d8 Grd ae Gcr jj Gpn d3 w4 ak Gwr O
 have Gof:=C9y (P:=l.prog) (w:=w) (base:=base) jo mi uc ma Gov (by decide) (by decide)
 have Grc:=G1h (P:=l.prog) (w:=w) (base:=base) (C3:=C1) (C4:=C4) mn d8 Grd jo Gof ak Gwr GD (mg_of X G a_N) O
 have Gli:=D9z (P:=l.prog) (w:=w) (base:=base) a_ jn Gch mj w6 bv Gcd mn Grc DC
 have Gan:=C6k (P:=l.prog) (w:=w) (base:=base) dc a_ Gli XE
 have Gpl:=C6b (P:=l.prog) (w:=w) (base:=base) db dc Gan MDk DC
 have ud:=D9r (P:=l.prog) (w:=w) (base:=base) mo O
 have w8:=C9z (P:=l.prog) (w:=w) (base:=base) jp
 have Gwg:=C1s (P:=l.prog) (w:=w) (base:=base) df oz qj qk q_
 exact G7w J4v mo ud jp w8 df Gwg db Gpl T O
theorem walk{l:OpenLaw}{q:Program}{loose:List Str}{XP:(Str ->Option Value) ->Heap ->Prop}{YP:World ->Heap ->Prop}{d:DefRec}{K:Params ->Frag}(hn:l.most=some 63)(hdf:d.params.defaults=[])
   (hY:∀(w:World) (h:Heap),YP w h ->(K w.params).In h)
   (F:∀(w:World) (mg:Str ->Option Value) (fa:Addr) (h:Heap),(K w.params).In h ->h.Ns mainGlobals mg ->mg d.name=some (.ref fa) ->
     ∃fd:FuncData,(∀(s:Shared) (u:Value),BindsTo s fd ⟨[u],[]⟩ [("_law_script",u)])/\∀base:Heap,(K w.params).In base ->base.Ns mainGlobals mg ->A9 l.prog w (K w.params) mg base (CX1 l.prog w) 18 fa fd ["_law_script"] ((C5n (K w.params)))):
   WalkO q loose XP YP l.row.toRowW d [] (fun f vs=>PySem.call f vs):=
 L2.walk_of (n:=63) (k:=18) (x:="_law_script") (CX:=fun w=>CX1 l.prog w) (sp:=fun w=>(C5n (K w.params))) hn (by decide) hdf ⟨rfl,by decide,by decide⟩ hY F (fun _ _ a ns hl _ hS=>⟨a,ns,rfl,hl,hS,fun _=>rfl⟩) fun _ _ _ _ _ z=>by
   obtain⟨_,_,_,_,_,_,_,_,_,_,z,_⟩:=z
   exact z
end TR
open PySem PySem.W PyProof.Rows
set_option maxRecDepth 100000 in
set_option maxHeartbeats 0 in
theorem PySem.Challenge.cw_tenreckon_k33_lines_refused_holds : PySem.Challenge.rw_tenreckon_k33_lines_refused.Holds := by
 refine hd ?_
 k_fill
 refine TR.walk (l := PySem.Challenge.rw_tenreckon_k33_lines_refused) rfl rfl (fun w h Y => TR.kInQ_of Y) ?F
 case F =>
   intro w mg fa h KX G hmg
   refine' TR.all_mk KX G hmg ?Zg_ ?Zp9 ?Zpc ?Ztm ?Zky ?Zqo ?Zpf ?Zjt ?Zph ?Zo5 ?Zkz ?Ztq ?Zk_ ?Zpi ?Zo6 ?Zpj ?Zl0 ?Zo7 ?Zl5 ?Zh_ ?Zo8 ?Zo9 ?Zpk ?Zpp ?Zl6 ?Zl7 ?Zoe ?Zqp ?Zpq ?Zpx ?Zl8 ?Zpz ?Zp_ ?Zqq ?Zqr ?Zqt ?Zog ?Zqa ?Zqu ?Zqb ?Zju ?Zqc ?Zl9 ?Zoh ?Zi0 ?Zjv ?Zqv ?Zoj ?Zol ?Zi4 ?Zla ?Zi5 ?Zlc ?Zom ?Zon ?Zoo ?Zjw ?Zqd ?Zqw ?Zle ?Zi6 ?Zqx ?Zqe ?Zqy ?Zqf ?Zoq ?Zqg ?Zqh ?Zqz ?Zou ?ZC5w ?ZD6y ?ZD4k ?ZD7z ?Ztt ?ZT ?Zsn ?Ztk ?ZJ5m ?ZG9c ?ZD6t ?ZD7t ?ZD5k ?ZD4p ?ZD5t ?ZD5a ?ZD5u ?Zlh ?ZJ0j ?ZD7y ?ZD6w ?ZD8k ?ZD5m ?ZD4v ?ZD5d ?ZD8y ?Zli ?ZJ0u ?ZD9a ?ZD7f ?ZD5f ?ZD7a ?ZD9d ?ZD5n ?ZD5w ?Zlj ?ZG9w ?ZD6p ?ZD8e ?ZD5p ?ZD8b ?ZD5r ?ZD5q ?ZD6s ?Zlu ?ZJ0f ?ZD5y ?ZD5h ?ZD6a ?ZD7n ?ZD6z ?ZD8n ?ZD6c ?Zlv ?ZG9q ?ZD5v ?ZD8d ?ZD6b ?ZD9g ?ZD8x ?ZD6e ?ZD6v ?Zl_ ?ZJ0a ?ZD8g ?ZD8t ?ZD8a ?ZD6g ?ZD7g ?ZD4s ?ZD6f ?Zm6 ?ZJ0v ?ZD7v ?ZD7w ?ZD6x ?ZD7r ?ZD8w ?ZD8r ?ZD8h ?Zm7 ?ZG9b ?ZD4x ?ZD7s ?ZD8f ?ZD7d ?ZD4u ?ZA9v ?ZA9t ?ZA3w ?ZA6r ?ZD8u ?ZD7j ?ZD7h ?ZD4r ?ZD6m ?ZB7q ?Zcb ?Zi7 ?Zcf ?Zi8 ?Zcg ?Zi9 ?Zci ?Zia ?Zcj ?Zib ?Zcm ?Zic ?Zcn ?Zie ?Zcq ?Zig ?ZG9v ?ZD6j ?ZD8c ?ZD4q ?ZA9s ?ZA9w ?ZA6q ?ZA9u ?ZA6p ?ZA3x ?ZD8m ?ZD8z ?ZD4z ?ZD5z ?ZD9b ?ZC5x ?Zjx ?Zii ?Zow ?Zij ?Zjy ?ZJ0p ?ZD4n ?ZD5c ?ZD5s ?ZD6n ?ZD4y ?ZB3c ?ZA4z ?ZA6s ?ZD4w ?ZD8p ?ZD6k ?ZD7u ?ZD7m ?ZC0c ?Zjz ?Zqi ?ZJ0h ?ZD9e ?ZG3e ?ZG9y ?ZG3g ?ZG3f ?ZG3d ?ZJ5u ?Zcty ?Zccl ?Zcex ?Zsub5 ?Zxga5 ?Zxgh5 ?Zxca5 ?Zxob5 ?Zxbe5 ?Zxcl5 ?ZJ5c ?ZJ5g ?ZJ4y ?ZJ5w ?ZJ6a ?Zhv5 ?ZlT ?ZlN ?ZalN ?ZniT ?ZlT1 ?ZsaT ?Znsg5 ?ZG3h ?ZG9h ?ZG9x ?ZfcT ?ZkTR ?Zq1 ?Zq2 ?Zq3 ?Zq4 ?Za_S ?ZlS ?Zm8 ?Zj_ ?ZtyT ?ZsubT ?Zcty1 ?Zccl1 ?Zcex1 ?Zcty3 ?Zccl3 ?Zcex3 ?Zcty4 ?Zccl4 ?Zcex4 ?Zs33 ?Zs43 ?Zs44 ?Zs13 ?Zs14 ?Zs11 ?Zs53 ?Zs54 ?Zs51 ?ZG9p ?ZD7e ?ZD7p ?ZD8j ?ZA3y ?ZD7k ?ZD8v ?ZD7b ?ZD7c ?ZD9f ?Za_N ?ZlG ?ZnsG
   case Zg_|Zp9|Zpc|Ztm|Zky|Zqo|Zpf|Zjt|Zph|Zo5|Zkz|Ztq|Zk_|Zpi|Zo6|Zpj|Zl0|Zo7|Zl5|Zh_|Zo8|Zo9|Zpk|Zpp|Zl6|Zl7|Zoe|Zqp|Zpq|Zpx|Zl8|Zpz|Zp_|Zqq|Zqr|Zqt|Zog|Zqa|Zqu|Zqb => (refine' TR.Fa.mk ?a ?l ?c ?k; (case a => k_is); (case l => k_is); (case c => k_is); (case k => k_is))
   case Zju|Zqc|Zl9|Zoh|Zi0|Zjv|Zqv|Zoj|Zol|Zi4|Zla|Zi5|Zlc|Zom|Zon|Zoo|Zjw|Zqd|Zqw|Zle|Zi6|Zqx|Zqe|Zqy|Zqf|Zoq|Zqg|Zqh|Zqz|Zou => (refine' TR.Fa.mk ?a ?l ?c ?k; (case a => k_is); (case l => k_is); (case c => k_is); (case k => k_is))
   case ZC5w|ZD6y|ZD4k|ZD7z => k_is
   case Ztt => constructor <;> k_is
   case ZT => constructor <;> kit_is
   case Zsn|Ztk|ZJ5m|ZG9c => k_is
   case ZD6t => constructor <;> k_is
   case ZD7t|ZD5k|ZD4p|ZD5t|ZD5a => k_is
   case ZD5u => kit_is
   case Zlh => (refine' TR.Fb.mk ?a ?i ?l ?c ?k; (case a => k_is); (case i => k_is); (case l => k_is); (case c => k_is); (case k => k_is))
   case ZJ0j => k_is
   case ZD7y => constructor <;> k_is
   case ZD6w|ZD8k|ZD5m|ZD4v|ZD5d => k_is
   case ZD8y => kit_is
   case Zli => (refine' TR.Fb.mk ?a ?i ?l ?c ?k; (case a => k_is); (case i => k_is); (case l => k_is); (case c => k_is); (case k => k_is))
   case ZJ0u => k_is
   case ZD9a => constructor <;> k_is
   case ZD7f|ZD5f|ZD7a|ZD9d|ZD5n => k_is
   case ZD5w => kit_is
   case Zlj => (refine' TR.Fb.mk ?a ?i ?l ?c ?k; (case a => k_is); (case i => k_is); (case l => k_is); (case c => k_is); (case k => k_is))
   case ZG9w => k_is
   case ZD6p => constructor <;> k_is
   case ZD8e|ZD5p|ZD8b|ZD5r|ZD5q => k_is
   case ZD6s => kit_is
   case Zlu => (refine' TR.Fb.mk ?a ?i ?l ?c ?k; (case a => k_is); (case i => k_is); (case l => k_is); (case c => k_is); (case k => k_is))
   case ZJ0f => k_is
   case ZD5y => constructor <;> k_is
   case ZD5h|ZD6a|ZD7n|ZD6z|ZD8n => k_is
   case ZD6c => kit_is
   case Zlv => (refine' TR.Fb.mk ?a ?i ?l ?c ?k; (case a => k_is); (case i => k_is); (case l => k_is); (case c => k_is); (case k => k_is))
   case ZG9q => k_is
   case ZD5v => constructor <;> k_is
   case ZD8d|ZD6b|ZD9g|ZD8x|ZD6e => k_is
   case ZD6v => kit_is
   case Zl_ => (refine' TR.Fb.mk ?a ?i ?l ?c ?k; (case a => k_is); (case i => k_is); (case l => k_is); (case c => k_is); (case k => k_is))
   case ZJ0a => k_is
   case ZD8g => constructor <;> k_is
   case ZD8t|ZD8a|ZD6g|ZD7g|ZD4s => k_is
   case ZD6f => kit_is
   case Zm6 => (refine' TR.Fb.mk ?a ?i ?l ?c ?k; (case a => k_is); (case i => k_is); (case l => k_is); (case c => k_is); (case k => k_is))
   case ZJ0v => k_is
   case ZD7v => constructor <;> k_is
   case ZD7w|ZD6x|ZD7r|ZD8w|ZD8r => k_is
   case ZD8h => kit_is
   case Zm7 => (refine' TR.Fb.mk ?a ?i ?l ?c ?k; (case a => k_is); (case i => k_is); (case l => k_is); (case c => k_is); (case k => k_is))
   case ZG9b => k_is
   case ZD4x => constructor <;> k_is
   case ZD7s|ZD8f|ZD7d|ZD4u|ZA9v|ZA9t|ZA3w|ZA6r|ZD8u|ZD7j|ZD7h|ZD4r|ZD6m => k_is
   case ZB7q => kit_is
   case Zcb|Zi7|Zcf|Zi8|Zcg|Zi9|Zci|Zia|Zcj|Zib|Zcm|Zic|Zcn|Zie|Zcq|Zig => (refine' TR.Fb.mk ?a ?i ?l ?c ?k; (case a => k_is); (case i => k_is); (case l => k_is); (case c => k_is); (case k => k_is))
   case ZG9v => k_is
   case ZD6j => constructor <;> k_is
   case ZD8c|ZD4q|ZA9s|ZA9w|ZA6q|ZA9u|ZA6p|ZA3x|ZD8m|ZD8z|ZD4z|ZD5z|ZD9b|ZC5x => k_is
   case Zjx|Zii|Zow|Zij|Zjy => (refine' TR.Fb.mk ?a ?i ?l ?c ?k; (case a => k_is); (case i => k_is); (case l => k_is); (case c => k_is); (case k => k_is))
   case ZJ0p => k_is
   case ZD4n => constructor <;> k_is
   case ZD5c|ZD5s|ZD6n|ZD4y|ZB3c|ZA4z|ZA6s|ZD4w|ZD8p|ZD6k|ZD7u|ZD7m|ZC0c => k_is
   case Zjz|Zqi => (refine' TR.Fb.mk ?a ?i ?l ?c ?k; (case a => k_is); (case i => k_is); (case l => k_is); (case c => k_is); (case k => k_is))
   case ZJ0h => k_is
   case ZD9e => kit_is
   case ZG3e|ZG9y|ZG3g|ZG3f|ZG3d|ZJ5u|Zcty|Zccl|Zcex|Zsub5|Zxga5|Zxgh5|Zxca5|Zxob5|Zxbe5|Zxcl5 => k_is
   case ZJ5c|ZJ5g|ZJ4y|ZJ5w|ZJ6a|Zhv5 => kit_is
   case ZlT|ZlN => k_is
   case ZalN => simp
   case ZniT|ZlT1|ZsaT|Znsg5|ZG3h|ZG9h|ZG9x => k_is
   case ZfcT => rfl
   case ZkTR => kit_is
   case Zq1|Zq2|Zq3|Zq4 => k_exc
   case Za_S|ZlS => k_is
   case Zm8|Zj_ => (refine' TR.Fb.mk ?a ?i ?l ?c ?k; (case a => k_is); (case i => k_is); (case l => k_is); (case c => k_is); (case k => k_is))
   case ZtyT|ZsubT|Zcty1|Zccl1|Zcex1|Zcty3|Zccl3|Zcex3|Zcty4|Zccl4|Zcex4|Zs33|Zs43|Zs44|Zs13|Zs14|Zs11|Zs53|Zs54|Zs51|ZG9p => k_is
   case ZD7e => constructor <;> k_is
   case ZD7p|ZD8j|ZA3y|ZD7k|ZD8v|ZD7b|ZD7c|ZD9f|Za_N|ZlG => k_is
   case ZnsG => rfl

