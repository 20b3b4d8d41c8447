import PyProof.Rows.All
import Wide.All
import OpenK.KLine
import OpenK.KOwn
import KE.RegKIsAll
import KE.KItem
import KE.LcSums
import KE.KPairTest
import Wide.FinOn
import Lean
import PyProof.EqAt
import PyProof.EqKinds
import PyProof.TupleCall
import PyProof.Rows.Catch
import PyProof.Rows.TupIter
import PyProof.TupleIter
import PyProof.Seq
import PyProof.ExcInit
import PyProof.ExcClass2
import KE.KIntText
import PyProof.StrOps2
import PyProof.ConsumeWalk
import PyProof.Rows.RuleM_int
import PyProof.ZipIter
import PyProof.EnumMake
import PyProof.Rows.TupAssign
import PyProof.Rows.Range3
import PyProof.DictWalks
import PyProof.DictUpdate
import PyProof.P3In
import PySem.Challenge.RW_tenreckon_k32_desk_played
set_option Elab.async false
set_option linter.all false
set_option maxRecDepth 100000
abbrev aA:=@if_neg
abbrev aB:=@Bool.false_ne_true
abbrev aC:=@if_pos
abbrev aE:=@PySem.wpAny_bind
abbrev aF:=@PySem.Heap.get?_push_of_some
abbrev aG:=@List.length_append
abbrev aH:=@List.mem_cons_self
abbrev aI:=@decide_eq_false
abbrev aJ:=@List.mem_cons_of_mem
abbrev aK:=@PySem.strLen_append
abbrev aM:=@congrArg
abbrev aO:=@Nat.le_refl
abbrev aP:=@List.length_map
abbrev aQ:=@Nat.lt_of_lt_of_le
abbrev aR:=@PySem.wpAny_pure
abbrev aT:=@decide_eq_true
abbrev aU:=@List.forall_mem_cons
abbrev aV:=@Int.eq_ofNat_of_zero_le
abbrev aW:=@Nat.lt_of_le_of_lt
abbrev aX:=@Classical.byContradiction
abbrev aY:=@List.getElem?_eq_getElem
abbrev aZ:=@List.mem_append_left
abbrev bA:=@PySem.Heap.lt_size
abbrev bB:=@Int.le_of_lt
abbrev bC:=@Int.mul_le_mul_of_nonneg_right
abbrev bE:=@List.mem_singleton
abbrev bF:=@Option.some.inj
abbrev bG:=@List.size_toArray
abbrev bH:=@Nat.pow_le_pow_right
abbrev bJ:=@List.mem_append_right
abbrev bK:=@List.length_cons
abbrev bM:=@List.mem_cons
abbrev bO:=@List.mem_append
abbrev bP:=@Nat.zero_le
abbrev bQ:=@List.getElem?_eq_some_iff
abbrev bS:=@Nat.le_trans
abbrev bT:=@Int.mul_pos
abbrev bV:=@PySem.Heap.get?_push_size
abbrev bX:=@PySem.wpAny_mono
abbrev bY:=@Nat.lt_trans
abbrev bZ:=@List.length_drop
abbrev cA:=@Nat.ne_of_lt
abbrev cB:=@Int.mul_le_mul_of_nonneg_left
abbrev cC:=@Int.toNat_of_nonneg
abbrev cE:=@Int.mul_lt_mul_of_pos_right
abbrev cF:=@List.mem_of_getElem?
abbrev cG:=@List.getElem?_append_right
abbrev cH:=@List.getElem?_append_left
abbrev cJ:=@PySem.W.mg_none_of
abbrev cK:=@Bool.and_eq_true
abbrev cL:=@List.map_append
abbrev cM:=@List.exists_cons_of_length_eq_add_one
abbrev cN:=@Nat.pow_add
abbrev cO:=@beq_eq_false_iff_ne
abbrev cP:=@List.append_nil
abbrev cQ:=@Int.emod_lt_of_pos
abbrev cR:=@List.length_take
abbrev cS:=@List.getElem?_eq_none
abbrev cU:=@PySem.wpAny_Call_Name_kw
abbrev cV:=@List.dropWhile_cons_of_pos
abbrev cW:=@List.mem_of_mem_take
abbrev cX:=@List.map_cons
abbrev cY:=@Nat.succ_le_succ
abbrev cZ:=@List.length_replicate
abbrev dI:=@List.dropWhile_suffix
abbrev dO:=@List.contains_iff_mem
abbrev eA:=@Nat.pow_succ
abbrev eB:=@Int.ofNat_lt
abbrev eC:=@Int.emod_nonneg
abbrev eF:=@Int.lt_of_le_of_lt
abbrev eG:=@Nat.lt_irrefl
abbrev eI:=@PySem.wpAny_holding
abbrev eJ:=@PySem.Heap.get?_update_other
abbrev eK:=@List.mem_map
abbrev eO:=@List.dropWhile_cons_of_neg
abbrev eQ:=@Int.ofNat_le
abbrev eS:=@Int.lt_of_mul_lt_mul_right
abbrev eU:=@Ne.symm
abbrev eV:=@List.take_length
abbrev eW:=@Int.natAbs_natCast
abbrev eX:=@List.getElem?_map
abbrev eY:=@List.filterMap_cons
abbrev eZ:=@List.map_congr_left
abbrev fi:=@List.length_reverse
abbrev fj:=@Nat.pow_le_pow_left
abbrev fk:=@Nat.le_of_lt
abbrev fo:=@Nat.mul_comm
abbrev fq:=@Int.zero_mul
abbrev fu:=@List.append_eq_nil_iff
abbrev fw:=@PySem.wpAny_standAt
abbrev fz:=@PySem.IntMulOk.of_bits
abbrev fA:=@Int.lt_of_lt_of_le
abbrev fC:=@Int.mul_nonneg
abbrev fD:=@PySem.Heap.get?_update_self
abbrev fE:=@PySem.wpAny_passesOwn
abbrev fF:=@List.find?_cons
abbrev fG:=@PySem.Heap.get?_none_of_le
abbrev fH:=@PySem.wpAny_truthy_bool
abbrev fJ:=@Nat.pow_pos
abbrev fK:=@Int.le_refl
abbrev fM:=@of_decide_eq_true
abbrev fO:=@List.mem_of_mem_drop
abbrev fP:=@PySem.wpAny_comprehension_free
abbrev fS:=@PySem.W.mg_of
abbrev fT:=@Int.mul_le_mul
abbrev fV:=@Int.mul_one
abbrev fY:=@Int.one_mul
abbrev fZ:=@List.getElem?_set_self
abbrev gD:=@beq_iff_eq
abbrev gE:=@PySem.wpAny_call
abbrev gF:=@PySem.codeAny_mono
abbrev gG:=@PySem.wpAny_execs_nil
abbrev gH:=@PyProof.Rows.boot_str
abbrev gI:=@List.length_filter_le
abbrev gJ:=@PyProof.Rows.callWith_type1
abbrev gK:=@Bool.eq_false_iff
abbrev gM:=@PySem.wpAny_loadPart_at
abbrev gO:=@Nat.mul_lt_mul_of_pos_right
abbrev gQ:=@List.append_assoc
abbrev gS:=@Array.mem_toList_iff
abbrev gX:=@PySem.Calls.evalArgs_plain
abbrev gY:=@PySem.codeAny_call_builtin
abbrev gZ:=@PyProof.Rows.boot_int
abbrev hJ:=@Nat.pow_mul
abbrev hU:=@Nat.pow_lt_pow_right
abbrev hV:=@Nat.mul_le_mul_right
abbrev hZ:=@Option.bind_some
abbrev iA:=@Array.toList_append
abbrev iB:=@Nat.mul_le_mul_left
abbrev iC:=@Nat.pow_lt_pow_iff_right
abbrev iD:=@Bool.eq_iff_iff
abbrev iE:=@PySem.PassesOwn.never
abbrev iF:=@Int.ediv_nonneg
abbrev iG:=@PySem.typeIs_str
abbrev iH:=@Bool.false_eq_true
abbrev iI:=@Nat.le_succ
abbrev iJ:=@Int.toNat_natCast
abbrev iK:=@PySem.Calls.callWith_builtin
abbrev iL:=@Bool.not_eq_true'
abbrev iM:=@Nat.succ.inj
abbrev iN:=@List.take_succ_eq_append_getElem
abbrev iO:=@List.ext_getElem?
abbrev iP:=@List.take_of_length_le
abbrev iQ:=@PySem.PassesOwn.leaving
abbrev iR:=@Int.ne_of_gt
abbrev iS:=@Int.le_ediv_iff_mul_le
abbrev iT:=@Option.map_eq_some_iff
abbrev iU:=@Array.all_eq_true_iff_forall_mem
abbrev iV:=@PySem.plainObj_wpAny_Assign_Attribute
abbrev iW:=@List.takeWhile_append_dropWhile
abbrev iX:=@PySem.F.slot_str_startswith
abbrev iY:=@List.take_append_drop
abbrev iZ:=@Nat.le_div_iff_mul_le
abbrev jA:=@Nat.lt_succ_self
abbrev jB:=@PySem.call_meets
abbrev jC:=@Nat.mul_assoc
abbrev jD:=@List.sum_cons
abbrev jE:=@List.getElem?_set_ne
abbrev jF:=@List.eq_nil_of_length_eq_zero
abbrev jG:=@Array.toList_extract
abbrev jH:=@List.mem_filter
abbrev jI:=@List.nodup_cons
abbrev jJ:=@Int.toNat_of_nonpos
abbrev jK:=@PySem.W.looks_findIn
abbrev jL:=@Int.fdiv_eq_ediv_of_nonneg
abbrev jM:=@Array.getElem?_eq_some_iff
abbrev jN:=@List.filter_append
abbrev jO:=@PySem.Str.cps_append
abbrev jP:=@PySem.F.args_str_split_2
abbrev jQ:=@PyProof.Rows.boot_max
abbrev jR:=@List.find?_eq_none
abbrev jS:=@Nat.mul_le_mul
abbrev jT:=@PyProof.Rows.join_cons_cons
abbrev jU:=@List.extract_eq_take_drop
abbrev jV:=@List.drop_eq_getElem_cons
abbrev jW:=@List.mem_of_find?_eq_some
abbrev jX:=@PySem.wpAny_assign_Name
abbrev jY:=@PySem.slot_list_getitem
abbrev jZ:=@PySem.wpAny_field
abbrev kA:=@PySem.F.entry_str_split
abbrev kB:=@Nat.mul_add
abbrev kC:=@List.getElem_mem
abbrev kD:=@PyProof.Rows.boot_abs
abbrev kE:=@Int.ediv_le_self
abbrev kF:=@List.all_eq_true
abbrev kG:=@Int.sub_zero
abbrev kH:=@List.of_mem_zip
abbrev kI:=@List.forIn_cons
abbrev kJ:=@List.range_succ
abbrev kK:=@Int.natCast_mul
abbrev kL:=@List.nil_append
abbrev kM:=@List.mem_range
abbrev kN:=@if_false
abbrev kQ:=@Bool.and_false
abbrev kR:=@List.drop_take
abbrev kS:=@List.take_succ
abbrev kT:=@Nat.add_mul
abbrev kU:=@Int.natAbs_mul
abbrev kW:=@if_true
noncomputable section
namespace TR
open PySem PySem.W PyProof.Rows
def foO(o:Obj):Option Obj:=match some o with
 |some ⟨_,_,.freed,_⟩=>none
 |o=>o
def pkO(l:List Obj):List Nat ->List (Option Obj):=
 @List.rec Obj (fun _=>List Nat ->List (Option Obj)) (fun ds=> @List.rec Nat (fun _=>List (Option Obj)) [] (fun _ _ b=>none::b) ds)
   (fun o _ b ds=> @List.rec Nat (fun _=>List (Option Obj)) [] (fun d a _=> @Nat.rec (fun _=>List (Option Obj)) (foO o::b a) (fun d' _=>b (d'::a)) d) ds) l
def dlO(c:List Nat):Nat ->List Nat:=
 @List.rec Nat (fun _=>Nat ->List Nat) (fun _=>[]) (fun a _ b i=>Nat.sub a i::b (Nat.succ a)) c
def upO(c:List Nat):Nat ->Bool:=
 @List.rec Nat (fun _=>Nat ->Bool) (fun _=>true) (fun a _ b i=> @Bool.rec (fun _=>Bool) false (b (Nat.succ a)) (Nat.ble i a)) c
def C5n{a:Nat}{i:Nat}(h:upO (a::b) i=true):i<=a/\upO b (a+1)=true:=by
 have e:upO (a::b) i= @Bool.rec (fun _=>Bool) false (upO b (a+1)) (Nat.ble i a):=rfl
 rw[e] at h
 cases q:Nat.ble i a with
 |false=>rw[q] at h;cases h
 |true=>rw[q] at h;exact⟨Nat.le_of_ble_eq_true q,h⟩
def D2y:∀b i,pkO [] (dlO b i)=b.map fun _=>none
 | [],_=>rfl
 | a::b,i=>by
   show none::pkO [] (dlO b (a+1))=none::b.map fun _=>none
   rw[D2y b (a+1)]
def C9p:∀(l:List Obj) (f:List Nat) (i:Nat),upO f i=true ->pkO l (dlO f i)=f.map fun a=>l[a-i]?.bind foO
 | [],f,i,_=>by rw[D2y];simp
 |o::l,[],i,_=>rfl
 | o ::l,a::f,i,h=>by
   obtain⟨s,n⟩:=C5n h
   have k:∀{bs:List Nat} {j:Nat},upO bs j=true ->∀b∈bs,j<=b:=by
     intro bs
     induction bs with
     |nil=>intro _ _ b g;cases g
     | cons c bs r=>
       intro j g b m
       obtain⟨x,y⟩:=C5n g
       cases m with
       |head=>exact x
       |tail _ m=>exact bS x (bS (iI _) (r y b m))
   cases e:a-i with
   | zero=>
     have:a=i:=by lia
     subst this
     have p:pkO (o::l) (dlO (a::f) a)=foO o::pkO l (dlO f (a+1)):=by
       show @Nat.rec (fun _=>List (Option Obj)) (foO o::pkO l (dlO f (a+1))) (fun d' _=>pkO l (d'::dlO f (a+1))) (a-a)=_
       rw[Nat.sub_self]
       rfl
     rw[p,C9p l f (a+1) n]
     simp only[cX,Nat.sub_self,List.getElem?_cons_zero,hZ]
     congr 1
     refine eZ fun b g=>?_
     have:=k n b g
     obtain⟨c,rfl⟩:∃c,b=a+1+c:=⟨b-(a+1),by lia⟩
     rw[show a+1+c-a=c+1 by lia,show a+1+c-(a+1)=c by lia];rfl
   | succ d=>
     have p:pkO (o::l) (dlO (a::f) i)=pkO l (dlO (a::f) (i+1)):=by
       show @Nat.rec (fun _=>List (Option Obj)) (foO o::pkO l (dlO f (a+1))) (fun d' _=>pkO l (d'::dlO f (a+1))) (a-i)=pkO l ((a-(i+1))::dlO f (a+1))
       rw[e,show a-(i+1)=d by lia]
     have q:upO (a::f) (i+1)=true:=by
       show @Bool.rec (fun _=>Bool) false (upO f (a+1)) (Nat.ble (i+1) a)=true
       rw[Nat.ble_eq_true_of_le (show i+1<=a by lia)];exact n
     rw[p,C9p l (a::f) (i+1) q]
     refine eZ fun b g=>?_
     have:=k q b g
     obtain⟨c,rfl⟩:∃c,b=i+1+c:=⟨b-(i+1),by lia⟩
     rw[show i+1+c-i=c+1 by lia,show i+1+c-(i+1)=c by lia];rfl
def kHookQ(K:Params ->Frag)(b:List Addr)(e:∀P,b=(K P).map (·.1))(u:upO b 0=true):Hook:=
 ⟨List (Option Obj),fun s=>pkO s.heap.objs.toList (dlO b 0),fun w=>(K w.params).map fun p=>some p.2,InK K,
  fun w s x=>InK.of e w s (by rw[<-x,C9p _ _ _ u];refine eZ fun a _=>?_;rw[Nat.sub_zero,Array.getElem?_toList];show(match s.heap.objs[a]? with|some ⟨_,_,.freed,_⟩=>none|o=>o)=_;cases s.heap.objs[a]?<;>rfl),InK.keeps⟩
def kInQ_of{K:Params ->Frag}{a:List Addr}{e:∀P,a=(K P).map (·.1)}{u:upO a 0=true}{w:World}{h:Heap}(Y:(kHookQ K a e u).says w h):(K w.params).In h:=Y
end TR
namespace PySem.W.Fast
def zz:=()
def tw4729108621468354966:=zz
def tw112821720426385797:=zz
def tw15469561042530557560:=zz
def tw17875547978579138504:=zz
def tw7103901088158463082:=zz
def tw17282282480888754619:=zz
def tw861502493610598483:=zz
def tw14848642603632901190:=zz
def tw10966826456635412305:=zz
def tw6449128278215917044:=zz
def tw17643660023018599961:=zz
def tw4435421394204515611:=zz
def tw11081916062258291835:=zz
def tw2250443682989827970:=zz
def tw17558672424072788113:=zz
def tw7774113678449685934:=zz
def tw9483934198085756240:=zz
def tw14311426620781934357:=zz
def tw5065591819665991627:=zz
def tw17718934823960014828:=zz
def tw2305414408130554292:=zz
def tw2495115493620250326:=zz
def tw16099700438911077358:=zz
def tw10412490514206232093:=zz
def tw17829434514381053950:=zz
def tw11070388883789476980:=zz
def tw14562155634004365027:=zz
def tw9076787650804036852:=zz
def tw6921103065077540406:=zz
def tw7903920360167114427:=zz
def tw4449799235075362730:=zz
def tw5114918623987374716:=zz
def tw7484994123860896570:=zz
def tw10293081186089767411:=zz
def tw5300429955715640911:=zz
def tw7422445781565681216:=zz
def tw14408862209902292549:=zz
def tw15916013147842562308:=zz
def tw3045536173889598909:=zz
def tw5483103596317574428:=zz
def tw9226953922699413809:=zz
def tw651700358538967526:=zz
def tw13084871767532281537:=zz
def tw14939612678797562433:=zz
def tw724307879160381300:=zz
def tw1835201335921387983:=zz
def tw7151132215420815488:=zz
def tw3233987462203235646:=zz
def tw4860023922305330110:=zz
def tw14736888041290939073:=zz
def tw8319933024895762948:=zz
def tw8212203176049278890:=zz
def tw6084841979344569690:=zz
def tw9266374589662076923:=zz
def tw866652123128751154:=zz
def tw8432719020341155521:=zz
def tw11408881796089955267:=zz
def tw3255949116541119010:=zz
def tw3374319085511977134:=zz
def tw2285686636504529566:=zz
def tw8179860101808600119:=zz
def tw11485923223005469204:=zz
def tw13629772047308552242:=zz
def tw685176793378778422:=zz
def tw10192404496044350798:=zz
def tw3501407184847187612:=zz
def tw14869962595670455896:=zz
def tw12236101354414956334:=zz
def tw8743444353482975932:=zz
def tw14143020097148135716:=zz
def tw1692201390411429781:=zz
def tw15163409612377130007:=zz
def tw10953238642706405951:=zz
def tw13936439389310444312:=zz
def tw5378528727604396283:=zz
def tw28018229315631829:=zz
def tw11112856592854345388:=zz
def tw8293125293789966914:=zz
def tw855453113358079251:=zz
def tw2990168724187919761:=zz
def tw5240077947681225987:=zz
def tw11280630913190679075:=zz
def tw14727194681476072466:=zz
def tw6864887910540207759:=zz
def tw4102176305081739490:=zz
def tw4699756791338806529:=zz
def tw2781441929908095834:=zz
def tw17525541185626968058:=zz
def tw17483705464198625004:=zz
def tw17049750858520166293:=zz
def tw15126001764536088292:=zz
def tw17721149768220346479:=zz
def tw8332346137001284160:=zz
def tw14689541978594310382:=zz
def tw5672623616920478581:=zz
def tw11219443903484984970:=zz
def tw13343301709244559618:=zz
def tw17653592248189364939:=zz
def tw13142635158332540280:=zz
def tw17431205604353252913:=zz
def tw5891704040020730945:=zz
def tw4538635040379822027:=zz
def tw17877845533520812795:=zz
def tw2810200551564342888:=zz
def tw18220031379085947620:=zz
def tw12064304430848566033:=zz
def tw8950108695139179302:=zz
def tw12307553483252862823:=zz
def tw16583815154217966991:=zz
def tw3971525946579005399:=zz
def tw16212330677787901120:=zz
def tw11120740854625124088:=zz
def tw9006961074152924250:=zz
def tw10186303709888756887:=zz
def tw4517560463748656503:=zz
def tw555815775780349263:=zz
def tw7882045510503734624:=zz
def tw5462360663327728810:=zz
def tw15418378422589880096:=zz
def tw1495895850433845275:=zz
def tw3717076922277056940:=zz
def tw11837218909656210887:=zz
def tw10052031235695348791:=zz
def tw6701911527682315725:=zz
def tw16947231599799070506:=zz
def tw14074196154385387334:=zz
def tw13114645530532618160:=zz
def tw2310853497090360408:=zz
def tw615563214671542189:=zz
def tw15540911362017771936:=zz
def tw13333588703604149420:=zz
def tw17079817176256170043:=zz
def tw17016834523296244275:=zz
def tw18441984877410159329:=zz
def tw6284410105664486691:=zz
def tw14522782377427387804:=zz
def tw13037224057902187189:=zz
def tw12188032599808994241:=zz
def tw6056707288978253535:=zz
def tw8840235324560252208:=zz
def tw9294201344175945319:=zz
def tw3277229846650655979:=zz
def tw15012102849882553082:=zz
def tw6782663255696616371:=zz
def tw16792556548410726896:=zz
def tw8185545411690514434:=zz
def tw7287071566680170395:=zz
def tw5890639436620234070:=zz
def tw9992116715903482975:=zz
def tw4944497897694004105:=zz
def tw640624198105042115:=zz
def tw14715273107921467267:=zz
def tw8981176238543900561:=zz
def tw15528221797031607849:=zz
def tw8285278889055680438:=zz
def tw5872530126848033075:=zz
def tw11707130962622978684:=zz
def tw5019544711922104826:=zz
def tw11153126096140912846:=zz
def tw3538781236444307513:=zz
def tw15171223727094530161:=zz
def tw726351398001015727:=zz
def tw8413399678365625193:=zz
def tw1683588176727124409:=zz
def tw10056364004704208136:=zz
def tw4163956849929007166:=zz
def tw7985883749528016586:=zz
def tw4858918184162951299:=zz
def tw10886659093417053267:=zz
def tw12685400027235849908:=zz
def tw5711038861398032994:=zz
def tw360634875079729221:=zz
def tw18048741565030583774:=zz
def tw8151759404152838978:=zz
def tw16203965252921439515:=zz
def tw13164499291161521807:=zz
def tw17713387462200973399:=zz
def tw1129948795310169627:=zz
def tw14540961386073393648:=zz
def tw4091352561680426876:=zz
def tw7900394595670775223:=zz
def tw8498532028676091811:=zz
def tw8159993647027272844:=zz
def tw424408320835691240:=zz
def tw18333273249017474000:=zz
def tw3236729772642805936:=zz
def tw6979879451811627008:=zz
def tw6751970477201280107:=zz
def tw8757050672659960515:=zz
def tw18335596039185421423:=zz
def tw6427576097997697322:=zz
def tw5376530373609499990:=zz
def tw6044648929357246223:=zz
def tw11662115353561507501:=zz
def tw18352723725473834589:=zz
def tw1725486776273817318:=zz
def tw17817366049700826239:=zz
def tw866717566613908145:=zz
def tw6542358382571353910:=zz
def tw6162269159774324313:=zz
def tw86012387029904805:=zz
def tw15214748959534726111:=zz
def tw2997492091776894028:=zz
def tw2087409540819079288:=zz
def tw2694234056635809718:=zz
def tw10228342955482612591:=zz
def tw12930229547647579594:=zz
def tw3303267245142563540:=zz
def tw4993863958327201973:=zz
def tw15575547313140297934:=zz
def tw7274447275368326107:=zz
def tw10509600274020199908:=zz
def tw3297117884562324255:=zz
def tw7929016534517509169:=zz
def tw8176730645128964420:=zz
def tw14226173905949225808:=zz
def tw1442379640649564109:=zz
def tw14564479935002850509:=zz
def tw16232239604740543338:=zz
def tw8916268530333523031:=zz
def tw16060203290454839817:=zz
def tw8186657734068701312:=zz
def tw14958820412457663293:=zz
def tw592324957102982844:=zz
def tw14963028359598502718:=zz
def tw7901701117890005806:=zz
def tw3919386906821981792:=zz
def tw12826555694032677247:=zz
def tw6105849179199505303:=zz
def tw14387916025512776202:=zz
def tw1663524305781585820:=zz
def tw3365755272349913518:=zz
def tw15895094517606616290:=zz
def tw1599053048872161195:=zz
def tw2358075552688931204:=zz
def tw17614877247268290040:=zz
def tw5217270863462422736:=zz
def tw8535803893964050539:=zz
def tw12459912946257978736:=zz
def tw9553971096990549364:=zz
def tw8374155422468719031:=zz
def tw5845002605336314091:=zz
def tw4837448313503449819:=zz
def tw11738243743197964597:=zz
def tw16873086082458093902:=zz
def tw1207101557538958131:=zz
def tw16860917588515726111:=zz
def tw9331231397406362311:=zz
def tw16682895059504647277:=zz
def tw13160504802963445071:=zz
def tw10295913840692754127:=zz
def tw6094820017090691545:=zz
def tw1825952489489211193:=zz
def tw5323657890516693427:=zz
def tw17082689572870858151:=zz
def tw2455152089536381482:=zz
def tw3671519592330383864:=zz
def tw15326580083554890809:=zz
def tw11844019762684407370:=zz
def tw15433366417846715934:=zz
def tw740290905518256060:=zz
def tw15235614512728720:=zz
def tw16145670418848962200:=zz
def tw15925456577456769635:=zz
def tw7086961617601330827:=zz
def tw8047209995159408440:=zz
def tw16120054744476736488:=zz
def tw1293241653719404408:=zz
def tw10921404820163398068:=zz
def tw17696404316872724479:=zz
def tw16902440903046159558:=zz
def tw17312402878845073609:=zz
def tw5289818103960998278:=zz
def tw1181674027530198351:=zz
def tw3049343062529576306:=zz
def tw10206286209542907786:=zz
def tw2259672571474061568:=zz
def tw4333590680753393835:=zz
def tw256976265262469064:=zz
def tw1205604411410820431:=zz
def tw4051853165826885262:=zz
def tw18293242582946804979:=zz
def tw4334401890000744311:=zz
def tw13547939009206843870:=zz
def tw11384182702204212275:=zz
def tw18402647697222807634:=zz
def tw12091442091272426231:=zz
def tw1405720946626083897:=zz
def tw4545961482378311905:=zz
def tw8908233856664302321:=zz
def tw5239429619861171699:=zz
def tw172746767574481773:=zz
def tw7631320640757110747:=zz
def tw15565715512253457277:=zz
def tw14592624751514493413:=zz
def tw14144024108822670751:=zz
def tw11272164335830466941:=zz
def tw17346623794827051843:=zz
def tw3778530596728393105:=zz
def tw13313058339493701161:=zz
def tw539538531456391632:=zz
def tw5832305185047221409:=zz
def tw14664691819916384248:=zz
def tw10550934584343373414:=zz
def tw10094733558918713432:=zz
def tw2392593158011319353:=zz
def tw9104974531708491489:=zz
def tw14154597600763967237:=zz
def tw11207431853666184334:=zz
def tw7501186508268903616:=zz
def tw12715800853834201459:=zz
def tw2046362190076281809:=zz
def tw15402603294489630176:=zz
def tw17137270108147033825:=zz
def tw8356303796347215682:=zz
def tw4171853373547519906:=zz
def tw3721919958574915784:=zz
def tw4946147512530127568:=zz
def tw4607425872040536859:=zz
def tw6216382948874008006:=zz
def tw13135312941875745310:=zz
def tw10861573186032746274:=zz
def tw6420159726195949164:=zz
def tw15438627641174518403:=zz
def tw2244103112122482387:=zz
def tw4480162626587320490:=zz
def tw7921390202802761869:=zz
def tw14755158882433999464:=zz
def tw8995945545434573385:=zz
def tw18418582437962087742:=zz
def tw17435391645217708394:=zz
def tw17691633702590694504:=zz
def tw6702445572142316249:=zz
def tw4015202173357781934:=zz
def tw10042083083395451092:=zz
def tw15495752065017430504:=zz
def tw14284835775768690865:=zz
def tw8428246938381088814:=zz
def tw5610444585433571239:=zz
def tw9592300441314626372:=zz
def tw1630143524128594353:=zz
def tw18004296560267143027:=zz
def tw8924819469995637033:=zz
def tw9116068151291705539:=zz
def tw2015444344454546412:=zz
def tw12132596417379514657:=zz
def tw14556482736207283325:=zz
def tw10741264400317747893:=zz
def tw9959121941294770655:=zz
def tw15052318979288761249:=zz
def tw14036186469904095446:=zz
def tw12099505692703838030:=zz
def tw11911167908941700269:=zz
def tw12770481643036789091:=zz
def tw6714880395473160397:=zz
def tw578191462805490351:=zz
def tw16607193741793207195:=zz
def tw1866716027138748530:=zz
def tw12740759652641322565:=zz
def tw13557862171009465336:=zz
def tw11317637306720784765:=zz
def tw17338325484393633139:=zz
def tw4683681711962371626:=zz
def tw3328811466098603303:=zz
def tw12738610918357793766:=zz
def tw12182174808115992843:=zz
def tw5515903443438498500:=zz
def tw10161179621583223854:=zz
def tw3846801734645722302:=zz
def tw1517009173149250642:=zz
def tw4039707410889071942:=zz
def tw16003985067176294414:=zz
def tw8737599933303070863:=zz
def tw14849461344987154502:=zz
def tw10519837036962490867:=zz
def tw3300454383303005205:=zz
def tw15593559885672580101:=zz
def tw17013487888433625170:=zz
def tw7592715696027808041:=zz
def tw5002640475654186023:=zz
def tw376983999666122830:=zz
def tw11153475782318119604:=zz
def tw15917658305576242666:=zz
def tw15870398105094248349:=zz
def tw14332157829676619468:=zz
def tw18248855084332350957:=zz
def tw3801850119919557013:=zz
def tw9304451534382375720:=zz
def tw6125853113672642322:=zz
def tw6526287140368922620:=zz
def tw10510056951384868246:=zz
def tw15227483606004533461:=zz
def tw15590096980072825465:=zz
def tw5662061979359257339:=zz
def tw13861969467909019144:=zz
def tw15771247859494662083:=zz
def tw18361725300881549022:=zz
def tw15733337929971156237:=zz
def tw17214186515701724070:=zz
def tw16279288168775177219:=zz
def tw3419001889969749887:=zz
def tw12901003280762261817:=zz
def tw7350462372000428638:=zz
def tw14842496431369740429:=zz
def tw2483420100392427323:=zz
def tw6356304189028158447:=zz
def tw14995258362815363992:=zz
def tw17351735930882485243:=zz
def tw13631397514672939371:=zz
def tw13069393092227542028:=zz
def tw8590580007683888701:=zz
def tw14760874974797668852:=zz
def tw6124413428159637790:=zz
def tw13307065042914920193:=zz
def tw13367274342830030513:=zz
def tw1937721966566455358:=zz
def tw140236481695663071:=zz
def tw9719393640593047967:=zz
def tw1887573119177674980:=zz
def tw514280064592716601:=zz
def tw3456351732281881909:=zz
def tw18157406047293677543:=zz
def tw2789304352393801511:=zz
def tw2646887283097553488:=zz
def tw6229817132586351632:=zz
def tw15763482434359817770:=zz
def tw5101696844757716304:=zz
def tw8949853181751564097:=zz
def tw4075453323654395381:=zz
def tw11898673842065290130:=zz
def tw14424681132571578402:=zz
def tw9860861378791804195:=zz
def tw16864618592142003386:=zz
def tw7050804516273991350:=zz
def tw3239113980409921550:=zz
def tw9201617497623189827:=zz
def tw12382822922155266910:=zz
def tw3543459598558145280:=zz
def tw2997480634906808460:=zz
def tw17760279517084355780:=zz
def tw11564986514327137767:=zz
def tw9676783613728631035:=zz
def tw4772062507164038959:=zz
def tw7837367980739423823:=zz
def tw15621116118777243554:=zz
def tw12681666616541194006:=zz
def tw7764699552788554220:=zz
def tw16109456028575089023:=zz
def tw15142666989864626641:=zz
def tw2399617604181995578:=zz
def tw16756451883985382160:=zz
def tw14201004317487731011:=zz
def tw2925816871977632210:=zz
def tw6651725471809605288:=zz
def tw6188973233030003785:=zz
def tw5634867526602368427:=zz
def tw3235425350174046738:=zz
def tw12468840222048715292:=zz
def tw18003772858949239459:=zz
def tw17271881437230615512:=zz
def tw13343918040275786880:=zz
def tw6327569006664949090:=zz
def tw11266997524610791606:=zz
def tw16489938334050473467:=zz
def tw3075201292733833056:=zz
def tw11180800956215176064:=zz
def tw9530734954097333506:=zz
def tw8997383693586321770:=zz
def tw4341293187932698999:=zz
def tw2424988045566436242:=zz
def tw10164718903369591474:=zz
def tw14081431093454284249:=zz
def tw13073492499399858440:=zz
def tw18400553757987027518:=zz
def tw2132029292895624192:=zz
def tw4026147355466621588:=zz
def tw13303234937177203706:=zz
def tw14329579894275425762:=zz
def tw8166255043249204926:=zz
def tw140001813534094272:=zz
def tw577049184839899653:=zz
def tw16035376269474964883:=zz
def tw1378205811072252300:=zz
def tw8996207646774452837:=zz
def tw3335794202401238526:=zz
def tw16412085850373738351:=zz
def tw15861351967447197489:=zz
def tw11402884983299125971:=zz
def tw14617222483516278133:=zz
def tw11212356425047092601:=zz
def tw1537541725227008683:=zz
def tw5171440476677080432:=zz
def tw12549542988036985293:=zz
def tw16723463757517087524:=zz
def tw7231845647793152400:=zz
def tw8044325682031459534:=zz
def tw9320515035125037321:=zz
def tw10911716485165742097:=zz
def tw11220919329744738794:=zz
def tw18124618509676941091:=zz
def tw14577027041581768965:=zz
def tw9689729476882780088:=zz
def tw12132732476715806282:=zz
def tw17658959251048325594:=zz
def tw6408400580700104982:=zz
def tw10956520680868813917:=zz
def tw14022695629967993375:=zz
def tw6880980288501444468:=zz
def tw211337195705725219:=zz
def tw5459702643516471331:=zz
def tw15764947353670896545:=zz
def tw12020253756985099128:=zz
def tw18105302477358141223:=zz
def tw4493901809537577575:=zz
def tw16773468814595293053:=zz
def tw5948871876076421671:=zz
def tw4323258101793500111:=zz
def tw2708214617527550399:=zz
def tw16753820520455620202:=zz
def tw13082796549270168242:=zz
def tw11824586356888161845:=zz
def tw16247262843940693239:=zz
def tw11566098044289413073:=zz
def tw8422229294311615681:=zz
def tw9615563845995560447:=zz
def tw561727478393794602:=zz
def tw10479991185640055810:=zz
def tw10159399881129095643:=zz
def tw1545724803604235189:=zz
def tw2983127059725616120:=zz
def tw6030501089693204938:=zz
def tw1956260828630720203:=zz
def tw2238811745713579835:=zz
def tw180266875558373844:=zz
def tw9679390387850249182:=zz
def tw2080317491765294665:=zz
def tw10851082721055443051:=zz
def tw1125065396945160393:=zz
def tw937210970483165301:=zz
def tw12858089460409395330:=zz
def tw13127508451798649013:=zz
def tw8398943975594018772:=zz
def tw8006371003960147343:=zz
end PySem.W.Fast
section
open PySem PySem.W PyProof.Rows
local macro_rules| `(tactic|o_head ($f:ident $k $a $e))=>if f.getId.eraseMacroScopes== `kHook then `(tactic|o_head (TR.kHookQ $k $a $e (by kernel_rfl))) else Lean.Macro.throwUnsupported
set_option maxHeartbeats 0 in
open_top hd for PySem.Challenge.rw_tenreckon_k32_desk_played
end
namespace L2
open PySem PySem.Spec PyProof.Rows
abbrev Key:=Sum Int Str
def D2n:Key ->Value ->Bool
 | .inl k,v=>Value.isInt k v
 | .inr x,v=>Value.isStrOf x v
def V3f(w:World):Key ->Int
 | .inl k=>hashInt k
 | .inr x=>hashStr w x
def A0k:∀{k:Key} {v:Value},D2n k v=true ->(∃i t,k=Sum.inl i/\v=Value.int i t)\/(∃x t,k=Sum.inr x/\v=Value.str x t)
 | .inl i,v,h=>by
   obtain⟨t,e⟩:=Value.isInt_shape (k:=i) (v:=v) h
   exact .inl ⟨i,t,rfl,e⟩
 | .inr x,v,h=>by
   obtain⟨t,e⟩:=Value.isStrOf_shape (x:=x) (v:=v) h
   exact .inr ⟨x,t,rfl,e⟩
def D7z(x:Str)(t:Tok):D2n (.inr x) (.str x t)=true:=by simp[D2n,Value.isStrOf]
def U0k(a b:Int):decide ((Sum.inl a:Key)=Sum.inl b)=(a==b):=by
 by_cases e:a=b
 . subst e;simp
 have h:¬(Sum.inl a:Key)=Sum.inl b:=fun q=>e (Sum.inl.inj q)
 rw[aI h]
 exact(cO.mpr e).symm
def G0j(a b:Str):decide ((Sum.inr a:Key)=Sum.inr b)=decide (a=b):=by
 by_cases e:a=b
 . subst e;simp
 have h:¬(Sum.inr a:Key)=Sum.inr b:=fun q=>e (Sum.inr.inj q)
 rw[aI h,aI e]
def J8x(a:Int)(b:Str):decide ((Sum.inl a:Key)=Sum.inr b)=false:=aI (fun q=>nomatch q)
def U0x(a:Str)(b:Int):decide ((Sum.inr a:Key)=Sum.inl b)=false:=aI (fun q=>nomatch q)
def B2c(prog:Program)(w:World):PySem.KeyKind prog w Key where
 is:=D2n
 hash:=V3f w
 inj :=fun v a b l f=>by
   rcases A0k l with⟨i,t,rfl,rfl⟩|⟨x,t,rfl,rfl⟩
   . rcases A0k f with⟨j,u,rfl,e⟩|⟨y,u,rfl,e⟩
     . injection e with c _;rw[c]
     . exact nomatch e
   . rcases A0k f with⟨j,u,rfl,e⟩|⟨y,u,rfl,e⟩
     . exact nomatch e
     . injection e with c _;rw[c]
 byValue:=fun k v h=>by
   rcases A0k h with⟨i,t,rfl,rfl⟩|⟨x,t,rfl,rfl⟩<;>rfl
 pyHash:=fun d h=>by
   rcases A0k d with⟨i,t,rfl,rfl⟩|⟨x,t,rfl,rfl⟩
   . exact wpAny_pyHash_int h
   . exact wpAny_pyHash_str h
 eqBool:=fun g d h=>by
   rcases A0k g with⟨i,t,rfl,rfl⟩|⟨x,t,rfl,rfl⟩
   . rcases A0k d with⟨j,u,rfl,rfl⟩|⟨y,u,rfl,rfl⟩
     . rw[U0k] at h;exact wpAny_eqBool_int h
     . rw[J8x] at h;exact SeqAt.EqAt.int_str i t y u _ _ _ _ h
   . rcases A0k d with⟨j,u,rfl,rfl⟩|⟨y,u,rfl,rfl⟩
     . rw[U0x] at h;exact SeqAt.EqAt.str_int x t j u _ _ _ _ h
     . rw[G0j] at h;exact wpAny_eqBool_str h
 «strs» := fun k x t v h => by
   rcases A0k h with⟨i,u,rfl,e⟩|⟨y,u,rfl,e⟩
   . exact nomatch e
   . injection e with c _
     subst c
     cases v<;>rfl
def G0(w:World)(x:Str)(t:Tok):(B2c prog w).is (.inr x) (.str x t)=true:=D7z x t
inductive V where
 |non|bl (b:Bool)|int (i:Int)|str (x:Str)|byt (b:Array UInt8)|flt (b:UInt64)|ref (a:Addr)|ty (n:String)
 deriving DecidableEq
def Y3:V ->Value ->Prop
 | .non,u=>u=Value.none
 | .bl b,u=>u=Value.bool b
 | .int i,u=>∃t,u=Value.int i t
 | .str x,u=>∃t,u=Value.str x t
 | .byt b,u=>∃t,u=Value.bytes b t
 | .flt b,u=>∃t,u=Value.float b t
 | .ref a,u=>u=Value.ref a
 | .ty n,u=>u=Value.type n
abbrev U7:List V ->List Value ->Prop:=Paired Y3
def U7.length{xs:List V}{us:List Value}(r:U7 xs us):xs.length=us.length:=Paired.length r
def U7.get:∀{xs:List V} {us:List Value} {i:Nat} {x:V},U7 xs us ->xs[i]?=some x ->∃u,us[i]?=some u/\Y3 x u
 |_,_,_,_,.nil,e=>by simp at e
 |_,_,0,_,.cons r _,e=>by simp at e;subst e;exact⟨_,rfl,r⟩
 | _,_,i+1,x,.cons _ t,e=>by
   obtain⟨u,b,a⟩:=U7.get (i:=i) (x:=x) t (by simpa using e)
   exact⟨u,by simpa using b,a⟩
def U7.set(r:Y3 x u):∀{xs:List V} {us:List Value} (i:Nat),U7 xs us ->U7 (xs.set i x) (us.set i u)
 |_,_,_,.nil=> .nil
 |_,_,0,.cons _ t=> .cons r t
 |_,_,i+1,.cons q t=> .cons q (U7.set r i t)
def U7.append:∀{xs ys:List V} {us ws:List Value},U7 xs us ->U7 ys ws ->U7 (xs++ys) (us++ws)
 |_,_,_,_,.nil,s=>s
 |_,_,_,_,.cons r t,s=> .cons r (U7.append t s)
def U7.take:∀{xs:List V} {us:List Value} (n:Nat),U7 xs us ->U7 (xs.take n) (us.take n)
 |_,_,0,_=> .nil
 |_,_,_+1,.nil=> .nil
 |_,_,n+1,.cons r t=> .cons r (U7.take n t)
def U7.drop:∀{xs:List V} {us:List Value} (n:Nat),U7 xs us ->U7 (xs.drop n) (us.drop n)
 |_,_,0,r=>r
 |_,_,_+1,.nil=> .nil
 |_,_,n+1,.cons _ t=>U7.drop n t
def A7y:Option V ->Option Value ->Prop
 |some v,some u=>Y3 v u
 |none,none=>True
 |_,_=>False
def KV{a:Type}:List (a×V) ->List (a×Value) ->Prop:=Paired fun(p:a×V) (q:a×Value)=>p.1=q.1/\Y3 p.2 q.2
def kV:Key ->V
 | .inl i=> .int i
 | .inr x=> .str x
inductive HO where
 |lst (xs:List V)
 |tup (xs:List V)
 |dK (kvs:List (Key×V))|dT (kvs:List (List Key×V))
 |set (S:Int ->Bool) (n:Nat)
 |ins (C dx:Addr) (fs:List (Str×V))
 |own (x:Addr)
 |xd (fs:List (Str×V))
 |met (f x:Addr)
 |rng (lo hi:Int)
 |frz (o:Obj) (u:HO)
 |tbl (ps:Array Value)
 |ext (φ:Heap ->Prop)
abbrev Hp:=Addr ->Option HO
def upd(H:Hp)(a:Addr)(o:HO):Hp:=fun b=>if b=a then some o else H b
def A6:upd H a o a=some o:=by unfold upd;rw[aC rfl]
def D8{H:Hp}(h:b≠a):upd H a o b=H b:=by unfold upd;rw[aA h]
def J5k:upd (upd H a o) a u=upd H a u:=by
 funext b;unfold upd;split<;>rfl
def A2v{H:Hp}(h:H a=some o)(h':H b=some u)(d:o≠u):a≠b:=by
 intro e;subst e;rw[h] at h';exact d (bF h')
def D6{H:Hp}(h:H a=some o)(h':H b=none):a≠b:=by
 intro e;subst e;rw[h] at h';cases h'
section
variable(P:Program)(w:World)
def A1g(H:Hp)(h:Heap)(a:Addr):HO ->Prop
 | .lst xs=>xs.length<=sizeLine/\∃(b:List Value) (n:Nat),U7 xs b/\h.get? a=some {cls:= .type "list",data:= .seq b.toArray n}
 | .tup xs=>xs.length<=sizeLine/\∃b:List Value,U7 xs b/\IsTup h a b.toArray
 | .dK kvs=>kvs.length<=sizeLine/\(a==sysModules)=false/\∃vs,KV kvs vs/\h.DictOf (B2c P w) a vs
 | .dT kvs=>kvs.length<=sizeLine/\(a==sysModules)=false/\∃xs:List (List Key×Addr×Value),
     Paired (fun(p:List Key×V) (q:List Key×Addr×Value)=>p.1=q.1/\H q.2.1=some (.tup (p.1.map kV))/\Y3 p.2 q.2.2) kvs xs/\
     ∃o j l,h.get? a=some o/\o.ExactDict/\o.data= .dict j l/\j.toList=xs.map (entryOfKey (tupleKind (B2c P w)))/\(xs.map (·.1)).Nodup
 | .set S n=>h.SetOf (intKind P w) a S n
 | .ins C d fs=>H d=some (.own a)/\fs.length<=1000/\d≠a/\h.get? a=some (W.instObj C d)/\
     ∃c,h.Ns1 d c/\(∀f,A7y (fs.lookup f) (c f))/\PySem.Within c (fs.map (·.1))
 | .own _=>∃o,h.get? a=some o
 | .xd fs=>∃c,h.Ns1 a c/\∀f,A7y (fs.lookup f) (c f)
 | .rng lo k=>∃t u v,h.get? a=some {cls:= .type "range",data:= .fields #[.int lo t,.int k u,.int 1 v]}
 | .frz o u=>h.get? a=some o/\A1g H h a u
 | .tbl ps=>h.get? a=some {cls:= .none,data:= .fields ps}
 | .met f x=>h.get? a=some (W.methodObj (.ref f) (.ref x))
 | .ext e=>e h/\(∃o,h.get? a=some o)/\∀i g:Heap,e i ->(∀o,i.get? a=some o ->g.get? a=some o) ->e g
def HOk(H:Hp)(h:Heap):Prop:=∀a o,H a=some o ->A1g P w H h a o
end
section
variable{P:Program}{w:World}{H H':Hp}{h h':Heap}{a:Addr}{o:HO}
def A1g.lt(x:A1g P w H h a o):a<h.objs.size:=by
 cases o with
 |lst xs=>obtain⟨_,_,_,_,e⟩:=x;exact bA e
 |tup xs=>obtain⟨_,_,_,p⟩:=x;exact p.lt
 |dK kvs=>obtain⟨_,_,_,_,o,_,_,e,_⟩:=x;exact bA e
 |dT kvs=>obtain⟨_,_,_,_,o,_,_,e,_⟩:=x;exact bA e
 |set S n=>obtain⟨o,_,_,_,e,_⟩:=x;exact bA e
 |ins C g fs=>obtain⟨_,_,_,e,_⟩:=x;exact bA e
 |own y=>obtain⟨_,e⟩:=x;exact bA e
 |xd fs=>obtain⟨_,⟨_,_,_,e,_⟩,_⟩:=x;exact bA e
 |rng lo d=>obtain⟨_,_,_,e⟩:=x;exact bA e
 |frz c u=>obtain⟨e,_⟩:=x;exact bA e
 |tbl ps=>exact bA (show h.get? a=some _ from x)
 |met f y=>exact bA (show h.get? a=some _ from x)
 |ext b=>obtain⟨_,⟨_,e⟩,_⟩:=x;exact bA e
def Paired.mapP{g e:Type}{F G:g ->e ->Prop}:∀{d:List g} {c:List e},Paired F d c ->(∀a b,F a b ->G a b) ->Paired G d c
 |_,_,.nil,_=> .nil
 |_,_,.cons r t,f=> .cons (f _ _ r) (Paired.mapP t f)
def A1g.stay(x:A1g P w H h a o)(k:∀b u,(b=a\/H b=some (.own a)) ->h.get? b=some u ->h'.get? b=some u)(ho:∀b,H b=some (.own a) ->H' b=some (.own a))(D:∀b xs,H b=some (.tup xs) ->H' b=some (.tup xs)):A1g P w H' h' a o:=by
 induction o with
 |lst xs=>obtain⟨z,l,n,r,e⟩:=x;exact⟨z,l,n,r,k _ _ (.inl rfl) e⟩
 |tup xs=>obtain⟨z,l,r,g,e,c⟩:=x;exact⟨z,l,r,g,k _ _ (.inl rfl) e,c⟩
 |dK kvs=>obtain⟨z,y,vs,r,g,i,j,e,c⟩:=x;exact⟨z,y,vs,r,g,i,j,k _ _ (.inl rfl) e,c⟩
 | dT kvs=>
   obtain⟨z,y,xs,r,g,i,j,e,c⟩:=x
   exact⟨z,y,xs,Paired.mapP r fun p q z=>⟨z.1,D _ _ z.2.1,z.2.2⟩,g,i,j,k _ _ (.inl rfl) e,c⟩
 |set S n=>obtain⟨g,i,j,t,e,c⟩:=x;exact⟨g,i,j,t,k _ _ (.inl rfl) e,c⟩
 | ins C I fs=>
   obtain⟨d,z,A,e,s,⟨m,i,j,E,c⟩,r⟩:=x
   exact⟨ho _ d,z,A,k _ _ (.inl rfl) e,s,⟨m,i,j,k _ _ (.inr d) E,c⟩,r⟩
 |own y=>obtain⟨g,e⟩:=x;exact⟨g,k _ _ (.inl rfl) e⟩
 |xd fs=>obtain⟨s,⟨m,i,j,e,c⟩,r⟩:=x;exact⟨s,⟨m,i,j,k _ _ (.inl rfl) e,c⟩,r⟩
 |rng lo G=>obtain⟨t,u,v,e⟩:=x;exact⟨t,u,v,k _ _ (.inl rfl) e⟩
 |frz g u B=>obtain⟨e,q⟩:=x;exact⟨k _ _ (.inl rfl) e,B q⟩
 | tbl ps=>
   have e:h.get? a=some {cls:= .none,data:= .fields ps}:=x
   show h'.get? a=some {cls:= .none,data:= .fields ps}
   exact k a _ (.inl rfl) e
 | met f y=>
   have e:h.get? a=some (W.methodObj (.ref f) (.ref y)):=x
   show h'.get? a=some (W.methodObj (.ref f) (.ref y))
   exact k a _ (.inl rfl) e
 |ext F=>obtain⟨p,⟨o,e⟩,st⟩:=x;exact⟨st _ _ p fun o q=>k _ _ (.inl rfl) q,⟨o,k _ _ (.inl rfl) e⟩,st⟩
def HOk.lt(x:HOk P w H h)(e:H a=some o):a<h.objs.size:=(x a o e).lt
def HOk.fresh(x:HOk P w H h)(e:h.objs.size<=a):H a=none:=by
 cases q:H a with
 |none=>rfl
 |some u=>exact absurd (aQ (x.lt q) e) (eG _)
def HOk.kept(x:HOk P w H h)(k:∀b u,h.get? b=some u ->h'.get? b=some u):HOk P w H h':=fun a o e=>
 (x a o e).stay (fun b u _ q=>k b u q) (fun _ q=>q) fun _ _ q=>q
def HOk.laid(x:HOk P w H h)(k:∀b u,h.get? b=some u ->h'.get? b=some u)(g:h.objs.size<=a)(new:A1g P w (upd H a o) h' a o):HOk P w (upd H a o) h':=fun b u e=>by
 have d:=x.fresh g
 by_cases f:b=a
 . subst f;rw[A6] at e;cases e;exact new
 . rw[D8 f] at e
   exact(x b u e).stay (fun c v _ q=>k c v q) (fun c q=>by rw[D8 (D6 q d)];exact q) fun c xs q=>by rw[D8 (D6 q d)];exact q
end
def Rd(H:Hp)(a:Addr)(u:HO):Prop:=H a=some u\/∃o,H a=some (.frz o u)
def Rd.ok(r:Rd H a u)(x:HOk P w H h):A1g P w H h a u:=by
 rcases r with r|⟨o,r⟩
 . exact x a u r
 obtain⟨_,q⟩:=x a _ r
 exact q
def Mut:Option HO ->Prop
 |some (.lst _)=>True
 |some (.dK _)=>True
 |some (.dT _)=>True
 |some (.set _ _)=>True
 |some (.ins _ _ _)=>True
 |some (.ext _)=>True
 |_=>False
section
variable{P:Program}{w:World}{H:Hp}{h h':Heap}{x e:Addr}{o':HO}
def HOk.write(ok:HOk P w H h)(g:Mut (H x))(he:e=x\/H e=some (.own x))(k:∀b u,b≠e ->h.get? b=some u ->h'.get? b=some u)(l:∃u,h'.get? e=some u)(new:A1g P w (upd H x o') h' x o'):HOk P w (upd H x o') h':=fun b u q=>by
 have d:∀c y,H c=some (.own y) ->c≠x:=fun c y r z=>by subst z;rw[r] at g;exact g
 have f:∀c xs,H c=some (.tup xs) ->c≠x:=fun c xs r z=>by subst z;rw[r] at g;exact g
 by_cases j:b=x
 . subst j;rw[A6] at q;cases q;exact new
 . rw[D8 j] at q
   by_cases a:b=e
   . have m:H b=some (.own x):=by
       rcases he with z|z
       . exact absurd (a.trans z) j
       . rw[a];exact z
     rw[q] at m;cases m
     obtain⟨v,n⟩:=l
     exact⟨v,by rw[a];exact n⟩
   . refine(ok b u q).stay (fun c v i r=>k c v ?_ r) (fun c r=>by rw[D8 (d c b r)];exact r) fun c xs r=>by rw[D8 (f c xs r)];exact r
     rcases i with rfl|i
     . exact a
     . rintro rfl
       rcases he with z|z
       . exact d c b i z
       . rw[i] at z;cases z;exact j rfl
end
structure Un(fs ex:List Addr)(H H':Hp)(h h':Heap):Prop where
 keep:∀b o,h.get? b=some o ->H b=none ->b ∉ fs ->b ∉ ex ->h'.get? b=some o
 slot:∀b o,h.get? b=some o ->H b=none ->b∈fs ->b ∉ ex ->∃sl,h'.get? b=some {o with slots:=sl}
 free:∀b o,h.get? b=some o ->H b=none ->b ∉ ex ->H' b=none
 there:∀b o,h.get? b=some o ->b ∉ ex ->∃o',h'.get? b=some o'
 tups:∀b xs,H b=some (.tup xs) ->H' b=some (.tup xs)
 frzs:∀b o u,H b=some (.frz o u) ->H' b=some (.frz o u)
 tbls:∀b ps,H b=some (.tbl ps) ->∃more,H' b=some (.tbl (ps++more))
section
variable{fs fs' ex ex':List Addr}{H H1 H2:Hp}{h h1 h2 h':Heap}{a x e:Addr}{o:HO}
def Un.any(u:Un fs ex H H1 h h1){c:Obj}(q:h.get? b=some c)(n:H b=none)(d:b ∉ ex):∃g,h1.get? b=some {c with slots:=g}:=by
 by_cases f:b∈fs
 . exact u.slot b c q n f d
 exact⟨c.slots,u.keep b c q n f d⟩
def Un.kept(k:∀b u,h.get? b=some u ->h'.get? b=some u):Un fs ex H H h h':=
 ⟨fun b c q _ _ _=>k b c q,fun b c q _ _ _=>⟨c.slots,k b c q⟩,fun _ _ _ n _=>n,fun b c q _=>⟨c,k b c q⟩,fun _ _ q=>q,fun _ _ _ q=>q,fun _ ps q=>⟨#[],by rw[q];simp⟩⟩
def Un.refl:Un fs ex H H h h:=Un.kept fun _ _ q=>q
def Un.laid(k:∀b u,h.get? b=some u ->h'.get? b=some u)(d:h.objs.size<=a)(c:H a=none):Un fs ex H (upd H a o) h h' where
 keep:=fun b u q _ _ _=>k b u q
 slot:=fun b u q _ _ _=>⟨u.slots,k b u q⟩
 free:=fun b u q n _=>by rw[D8 (cA (aQ (bA q) d))];exact n
 there:=fun b u q _=>⟨u,k b u q⟩
 tups:=fun b xs q=>by rw[D8 (D6 q c)];exact q
 frzs:=fun b u xs q=>by rw[D8 (D6 q c)];exact q
 tbls:=fun b ps q=>⟨#[],by rw[D8 (D6 q c),q];simp⟩
def Un.write(d:Mut (H x))(he:e=x\/H e=some (.own x))(k:∀b u,b≠e ->h.get? b=some u ->h'.get? b=some u)(g:∃u,h'.get? e=some u):Un fs ex H (upd H x o) h h':=by
 have i:∀b,H b=none ->b≠x:=fun b n z=>by subst z;rw[n] at d;exact d
 have j:∀b,H b=none ->b≠e:=fun b n z=>by
   subst z
   rcases he with r|r
   . exact i b n r
   . rw[n] at r;cases r
 have f:∀b u,H b=some u ->¬Mut (some u) ->b≠x:=fun b u q nm z=>by subst z;rw[q] at d;exact nm d
 refine⟨fun b u q n _ _=>k b u (j b n) q,fun b u q n _ _=>⟨u.slots,k b u (j b n) q⟩,fun b u q n _=>by rw[D8 (i b n)];exact n,fun b u q _=>?_,
   fun b xs q=>by rw[D8 (f b _ q fun z=>z)];exact q,fun b u xs q=>by rw[D8 (f b _ q fun z=>z)];exact q,fun b ps q=>⟨#[],by rw[D8 (f b _ q fun z=>z),q];simp⟩⟩
 by_cases c:b=e
 . subst c;exact g
 exact⟨u,k b u c q⟩
end
def trk(h:Heap)(H:Hp):List Addr:=(List.range h.objs.size).filter fun a=>(H a).isSome
def C3a(h:Heap)(H:Hp):Heap:=W.hideAll h (trk h H)
def D6s(h:Heap)(H:Hp):(C3a h H).objs.size=h.objs.size:=W.hideAll_size _ _
def G1a{h:Heap}{H:Hp}(e:h.get? b=some o)(n:H b=none):(C3a h H).get? b=some o:=
 W.hideAll_get _ e fun a=>by
   have q:(H b).isSome=true:=(jH.mp a).2
   rw[n] at q;simp at q
def J4w{h:Heap}{H:Hp}(e:(C3a h H).get? b=some o):h.get? b=some o/\H b=none:=by
 have a:h.get? b=some o:=W.of_hideAll (trk h H) e
 refine⟨a,?_⟩
 cases q:H b with
 |none=>rfl
 | some x=>
   have c:b∈trk h H:=jH.mpr ⟨kM.mpr (bA a),by simp[q]⟩
   have z:(C3a h H).get? b=none:=W.hideAll_none (trk h H) c
   rw[z] at e;cases e
structure Mod(K:W.Frag)(mg:Str ->Option Value)(base:Heap):Prop where
 kin:K.In base
 glob:base.Ns mainGlobals mg
 blt:∃mb,base.Ns builtinsNs mb/\∀x:Str,x≠"__name__" ->mb x=bootBuiltins x
 nolimit:base.NoLimit
structure Cx where
 prog:Program
 w:World
 K:PySem.W.Frag
 mg:Str ->Option Value
 base:Heap
 A:Around
 N:List Str
 s₀:Shared
 H₀:Hp
 env:Env
 outer:List Env
 stack:List Env
 ex:List Addr
 fn:Str ->Bool
 calm:Bool
 pn:List (Addr×Obj)
 xe:Value ->Shared ->Prop
def frs(l:List Env):List Addr:=l.filterMap (·.frame)
abbrev Cx.fs(X:Cx):List Addr:=frs X.outer
def Vis(a:Scope)(x:Str):Prop:=a.names.lookup x=some .local\/a.names.lookup x=some .cell\/a.names.lookup x=some .free
def Loc(a:Scope)(x:Str):Prop:=a.names.lookup x=some .local\/a.names.lookup x=some .cell
def U8p(env:Env)(h:Heap)(m:Str ->Option Value)(x:Str)(u:Value):Prop:=
 (env.kindOf x=some .local/\m x=some u)\/((env.kindOf x=some .cell\/env.kindOf x=some .free)/\∃c,env.cells.lookup x=some c/\h.IsCell c (some u))
structure Cx.Ok(X:Cx):Prop where
 mod:Mod X.K X.mg X.base
 kind:X.env.scope.kind= .function
 glob:X.env.globals=mainGlobals
 blt:X.env.builtins=builtinsNs
 above:X.s₀.heap.objs.size<=X.env.locals
 inj:∀x y c,X.env.cells.lookup x=some c ->X.env.cells.lookup y=some c ->x=y
 has:∀x,(X.env.kindOf x=some .cell\/X.env.kindOf x=some .free) ->∃c,X.env.cells.lookup x=some c
 cab:∀x c,X.fn x=true ->X.env.cells.lookup x=some c ->X.s₀.heap.objs.size<=c
 hd:X.calm=true ->X.A.handled=none
 frames:X.A.frames=some X.stack
 stk:X.stack=X.outer\/(X.stack=X.env::X.outer/\X.env.frame=some X.env.locals)
 exf:∀b∈X.ex,b≠X.env.locals/\∀x c,X.env.cells.lookup x=some c ->c≠b
 bs:∀b o,X.base.get? b=some o ->X.s₀.heap.get? b=some o/\X.H₀ b=none
 bsz:X.base.objs.size<=X.s₀.heap.objs.size
 noex:∀b o,X.base.get? b=some o ->b ∉ X.ex
 exfs:∀b∈X.ex,b ∉ X.fs
 funs:X.s₀.heap.FunFrames X.base X.outer
 frf:∀b∈X.fs,X.H₀ b=none
structure Inv(X:Cx)(pins:List (Addr×Obj))(σ:List (Option V))(H:Hp)(s:Shared):Prop where
 ok:X.Ok
 os:s.os=X.s₀.os
 bare:AllBare s.gens
 base:Un X.fs X.ex X.H₀ H X.s₀.heap s.heap
 loc:∃m,s.heap.Ns X.env.locals m/\∀(i:Nat) (x:Str) (v:V),X.N[i]?=some x ->σ[i]?=some (some v) ->Vis X.env.scope x ->∃u,Y3 v u/\U8p X.env s.heap m x u
 cell:∀x c,X.env.cells.lookup x=some c ->∃v,s.heap.IsCell c v
 free:H X.env.locals=none
 freeC:∀x c,X.env.cells.lookup x=some c ->H c=none
 pin:∀p∈X.pn++pins,s.heap.get? p.1=some p.2/\H p.1=none/\p.1≠X.env.locals/\p.1 ∉ X.fs/\∀v,p.2.data≠ .cell v
 hok:HOk X.prog X.w H s.heap
 len:σ.length=X.N.length
section
variable{X:Cx}{pins:List (Addr×Obj)}{σ:List (Option V)}{H H':Hp}{s:Shared}{h':Heap}
def Cx.Ok.nofr(ok:X.Ok)(e:X.base.get? b=some o):b ∉ X.fs:=fun a=>by
 have:=(ok.funs.mem a).1
 rw[e] at this;cases this
def Inv.bs(I:Inv X pins σ H s):∀b o,X.base.get? b=some o ->s.heap.get? b=some o/\H b=none:=fun b o e=>
 ⟨I.base.keep b o (I.ok.bs b o e).1 (I.ok.bs b o e).2 (I.ok.nofr e) (I.ok.noex b o e),I.base.free b o (I.ok.bs b o e).1 (I.ok.bs b o e).2 (I.ok.noex b o e)⟩
def Inv.bk(I:Inv X pins σ H s):∀b o,X.base.get? b=some o ->s.heap.get? b=some o:=fun b o e=>(I.bs b o e).1
def Inv.mod(I:Inv X pins σ H s):Mod X.K X.mg X.base:=I.ok.mod
def Inv.kIn(I:Inv X pins σ H s):X.K.In s.heap:=I.ok.mod.kin.keeps I.bk
def Inv.lt(I:Inv X pins σ H s):X.env.locals<s.heap.objs.size:=let⟨_,a,_⟩:=I.loc;a.lt
def Inv.sz(I:Inv X pins σ H s):X.s₀.heap.objs.size<=s.heap.objs.size:=bS I.ok.above (fk I.lt)
def Inv.nofs(I:Inv X pins σ H s)(h:s.heap.objs.size<=a):a ∉ X.fs:=fun b=>by
 obtain⟨_,o,ho,_⟩:=I.ok.funs.mem b
 exact absurd (aQ (bA ho) (bS I.sz h)) (eG _)
def Inv.cne(I:Inv X pins σ H s):∀x c,X.env.cells.lookup x=some c ->c≠X.env.locals:=fun x c e z=>by
 obtain⟨v,o,ho,d⟩:=I.cell x c e
 obtain⟨m,⟨f,g,h,a,b,_⟩,_⟩:=I.loc
 rw[z,a] at ho;cases ho;rw[b] at d;cases d
def Inv.funs(I:Inv X pins σ H s):s.heap.FunFrames X.base X.outer:=by
 have all:∀(l:List Env),(∀b∈frs l,b∈X.fs) ->X.s₀.heap.FunFrames X.base l ->s.heap.FunFrames X.base l:=by
   intro l
   induction l with
   |nil=>intro _ _;trivial
   | cons env r g=>
     intro f j
     obtain⟨k,⟨L,o,a,i,ho,m⟩,h⟩:=j
     have d:L∈X.fs:=f L (by unfold frs;rw[eY,a];exact aH)
     obtain⟨n,e⟩:=I.base.slot L o ho (I.ok.frf L d) d fun z=>I.ok.exfs L z d
     exact⟨k,⟨L,_,a,i,e,m⟩,g (fun b c=>f b (by unfold frs;rw[eY,a];exact aJ _ c)) h⟩
 exact all X.outer (fun _ c=>c) I.ok.funs
def Inv.stack(I:Inv X pins σ H s):s.heap.FunFrames X.base X.stack:=by
 rcases I.ok.stk with e|⟨e,b⟩
 . rw[e];exact I.funs
 rw[e]
 obtain⟨m,a,_⟩:=I.loc
 refine .cons (by rw[I.ok.kind];decide) b a ?_ I.funs
 exact fG (bS I.ok.bsz I.ok.above)
def Inv.stkSub(I:Inv X pins σ H s):∀b∈frs X.stack,b∈X.env.locals::X.fs:=fun b a=>by
 rcases I.ok.stk with e|⟨e,c⟩
 . rw[e] at a;exact aJ _ a
 . rw[e] at a
   unfold frs at a
   rw[eY,c] at a
   exact a
def Inv.stkFree(I:Inv X pins σ H s):∀b∈frs X.stack,H b=none:=fun b a=>by
 rcases bM.mp (I.stkSub b a) with e|a
 . rw[e];exact I.free
 . obtain⟨_,o,ho,_⟩:=I.ok.funs.mem a
   exact I.base.free b o ho (I.ok.frf b a) fun z=>I.ok.exfs b z a
def Inv.step{g':Array GenState}{t':Nat}{d':Drawn}{ch:List Addr}(I:Inv X pins σ H s)(g:∀b∈ch,(b∈X.ex\/X.s₀.heap.objs.size<=b)/\b≠X.env.locals/\(∀x c,X.env.cells.lookup x=some c ->c≠b)/\∀p∈X.pn++pins,p.1≠b)(keep:∀b o,b≠X.env.locals ->b ∉ X.fs ->b ∉ ch ->s.heap.get? b=some o ->H b=none ->h'.get? b=some o)(slot:∀b o,b≠X.env.locals ->b∈X.fs ->b ∉ ch ->s.heap.get? b=some o ->H b=none ->∃D,h'.get? b=some {o with slots:=D})(free:∀b o,b ∉ ch ->s.heap.get? b=some o ->H b=none ->H' b=none)(there:∀b o,b ∉ ch ->s.heap.get? b=some o ->∃y,h'.get? b=some y)(tups:∀b xs,H b=some (.tup xs) ->H' b=some (.tup xs))(frzs:∀b o u,H b=some (.frz o u) ->H' b=some (.frz o u))(tbls:∀b ps,H b=some (.tbl ps) ->∃more,H' b=some (.tbl (ps++more)))(ns:∀m,s.heap.Ns X.env.locals m ->h'.Ns X.env.locals m)(E:HOk X.prog X.w H' h')(R:AllBare g'):
   Inv X pins σ H' {s with heap:=h',gens:=g',drawn:=d',toks:=t'}:=by
 have A:∀b o,X.s₀.heap.get? b=some o ->b≠X.env.locals:=fun b o e=>cA (aQ (bA e) I.ok.above)
 have j:∀b o,X.s₀.heap.get? b=some o ->b ∉ X.ex ->b ∉ ch:=fun b o e a w=>by
   rcases(g b w).1 with z|z
   . exact a z
   . exact absurd (aQ (bA e) z) (eG _)
 have h:∀x c,X.env.cells.lookup x=some c ->∀v,s.heap.IsCell c v ->h'.IsCell c v:=fun x c e v ⟨o,ho,F⟩=>by
   have f:c ∉ ch:=fun z=>(g c z).2.2.1 x c e rfl
   by_cases M:c∈X.fs
   . obtain⟨D,q⟩:=slot c o (I.cne x c e) M f ho (I.freeC x c e)
     exact⟨_,q,F⟩
   . exact⟨o,keep c o (I.cne x c e) M f ho (I.freeC x c e),F⟩
 refine⟨I.ok,I.os,R,⟨fun b o e n w a=>?_,fun b o e n w a=>?_,fun b o e n a=>?_,fun b o e a=>?_,fun b xs e=>tups b xs (I.base.tups b xs e),fun b o xs e=>frzs b o xs (I.base.frzs b o xs e),fun b ps e=>?_⟩,?_,fun x c e=>?_,?_,fun x c e=>?_,fun p L=>?_,E,I.len⟩
 . exact keep b o (A b o e) w (j b o e a) (I.base.keep b o e n w a) (I.base.free b o e n a)
 . obtain⟨D,t⟩:=I.base.slot b o e n w a
   obtain⟨C,B⟩:=slot b _ (A b o e) w (j b o e a) t (I.base.free b o e n a)
   exact⟨C,B⟩
 . obtain⟨y,t⟩:=I.base.there b o e a
   exact free b y (j b o e a) t (I.base.free b o e n a)
 . obtain⟨y,t⟩:=I.base.there b o e a
   exact there b y (j b o e a) t
 . obtain⟨O,t⟩:=I.base.tbls b ps e
   obtain⟨N,B⟩:=tbls b _ t
   exact⟨O++N,by rw[B,Array.append_assoc]⟩
 . obtain⟨m,P,Q⟩:=I.loc
   refine⟨m,ns m P,fun i x v t B T=>?_⟩
   obtain⟨u,r,l⟩:=Q i x v t B T
   refine⟨u,r,?_⟩
   rcases l with l|⟨k,c,e,z⟩
   . exact .inl l
   . exact .inr ⟨k,c,e,h x c e _ z⟩
 . obtain⟨v,z⟩:=I.cell x c e
   exact⟨v,h x c e v z⟩
 . obtain⟨m,⟨o,_,_,ho,_⟩,_⟩:=I.loc
   exact free _ o (fun z=>(g _ z).2.1 rfl) ho I.free
 . obtain⟨v,o,ho,F⟩:=I.cell x c e
   exact free c o (fun z=>(g c z).2.2.1 x c e rfl) ho (I.freeC x c e)
 obtain⟨e,n,J,G,d⟩:=I.pin p L
 have f:p.1 ∉ ch:=fun z=>(g p.1 z).2.2.2 p L rfl
 exact⟨keep p.1 p.2 J G f e n,free p.1 p.2 f e n,J,G,d⟩
def Inv.un{t':Nat}(I:Inv X pins σ H s)(u:Un X.fs [] H H' s.heap h')(c:HOk X.prog X.w H' h'):Inv X pins σ H' {s with heap:=h',toks:=t'}:=by
 obtain⟨m,⟨o,q,t,ho,r⟩,_⟩:=id I.loc
 obtain⟨k,j⟩:=u.any ho I.free (by simp)
 exact I.step (g':=s.gens) (d':=s.drawn) (ch:=[]) (fun _ z=>nomatch z) (fun b o _ d _ e n=>u.keep b o e n d (by simp)) (fun b o _ d _ e n=>u.slot b o e n d (by simp)) (fun b o _ e n=>u.free b o e n (by simp)) (fun b o _ e=>u.there b o e (by simp)) u.tups u.frzs u.tbls (fun p i=>by
   obtain⟨l,f,g,a,h⟩:=i
   rw[ho] at a;cases a
   exact⟨_,f,g,j,h⟩) c I.bare
def Inv.call{t':Nat}(I:Inv X pins σ H s)(u:Un (frs X.stack) ch H H' s.heap h')(g:HOk X.prog X.w H' h')(q:AllBare g')(f:∀b∈ch,(b∈X.ex\/X.s₀.heap.objs.size<=b)/\b≠X.env.locals/\(∀x c,X.env.cells.lookup x=some c ->c≠b)/\∀p∈X.pn++pins,p.1≠b):
   Inv X pins σ H' {s with heap:=h',gens:=g',drawn:=d',toks:=t'}:=by
 obtain⟨m,⟨o,A,B,ho,r⟩,_⟩:=id I.loc
 obtain⟨v,h⟩:=u.any ho I.free fun z=>(f _ z).2.1 rfl
 exact I.step (ch:=ch) f (fun b o h t a e n=>u.keep b o e n (fun z=>(bM.mp (I.stkSub b z)).elim h t) a) (fun b o _ _ a e n=>u.any e n a) (fun b o a e n=>u.free b o e n a) (fun b o a e=>u.there b o e a) u.tups u.frzs u.tbls (fun y l=>by
   obtain⟨w,i,j,d,k⟩:=l
   rw[ho] at d;cases d
   exact⟨_,i,j,h,k⟩) g q
def Inv.turned{t':Nat}(I:Inv X pins σ H s)(k:∀b o,b≠a ->s.heap.get? b=some o ->h'.get? b=some o)(h:H a=none)(g:a≠X.env.locals)(w:a∈X.ex\/X.s₀.heap.objs.size<=a)(t:∀x c,X.env.cells.lookup x=some c ->c≠a)(l:∀p∈X.pn++pins,p.1≠a):Inv X pins σ H {s with heap:=h',toks:=t'}:=by
 have f:∀b u,H b=some u ->b≠a:=fun b u e z=>by rw[z,h] at e;cases e
 refine I.step (g':=s.gens) (d':=s.drawn) (ch:=[a]) (fun b j=>?_) (fun b o _ _ d e _=>k b o (fun z=>d (by simp[z])) e) (fun b o _ _ d e _=>⟨o.slots,k b o (fun z=>d (by simp[z])) e⟩) (fun _ _ _ _ n=>n)
   (fun b o d e=>⟨o,k b o (fun z=>d (by simp[z])) e⟩) (fun _ _ e=>e) (fun _ _ _ e=>e) (fun b ps e=>⟨#[],by rw[e];simp⟩) (fun m i=>?_) (fun b u e=>?_) I.bare
 . have e:b=a:=by simpa using j
   subst e
   exact⟨w,g,t,l⟩
 . obtain⟨o,y,A,ho,r⟩:=i
   exact⟨o,y,A,k _ o (eU g) ho,r⟩
 refine(I.hok b u e).stay (fun c v d q=>k c v ?_ q) (fun _ q=>q) fun _ _ q=>q
 rcases d with z|z
 . rw[z];exact f b u e
 exact f c _ z
def Inv.tok(I:Inv X pins σ H s)(t:Nat):Inv X pins σ H {s with toks:=t}:=I.un (h':=s.heap) (t':=t) Un.refl I.hok
def Inv.kept{t':Nat}(I:Inv X pins σ H s)(k:∀b u,s.heap.get? b=some u ->h'.get? b=some u):Inv X pins σ H {s with heap:=h',toks:=t'}:=I.un (Un.kept k) (I.hok.kept k)
def Inv.laid{t':Nat}(I:Inv X pins σ H s)(k:∀b u,s.heap.get? b=some u ->h'.get? b=some u)(c:s.heap.objs.size<=a)(new:A1g X.prog X.w (upd H a o) h' a o):
   Inv X pins σ (upd H a o) {s with heap:=h',toks:=t'}:=I.un (Un.laid k c (I.hok.fresh c)) (I.hok.laid k c new)
def Inv.write{t':Nat}(I:Inv X pins σ H s)(c:Mut (H x))(he:e=x\/H e=some (.own x))(k:∀b u,b≠e ->s.heap.get? b=some u ->h'.get? b=some u)(a:∃u,h'.get? e=some u)(new:A1g X.prog X.w (upd H x o) h' x o):Inv X pins σ (upd H x o) {s with heap:=h',toks:=t'}:=I.un (Un.write c he k a) (I.hok.write c he k a new)
def Inv.pins_of(I:Inv X pins σ H s)(h:∀p∈a,s.heap.get? p.1=some p.2/\H p.1=none/\p.1≠X.env.locals/\p.1 ∉ X.fs/\∀v,p.2.data≠ .cell v):Inv X a σ H s:=
 ⟨I.ok,I.os,I.bare,I.base,I.loc,I.cell,I.free,I.freeC,fun p b=>(bO.mp b).elim (fun z=>I.pin p (aZ _ z)) (h p),I.hok,I.len⟩
def B8n{N:List Str}(c:N.Nodup){i j:Nat}(a:N[i]?=some x)(b:N[j]?=some x):i=j:=by
 obtain⟨g,e⟩:=bQ.mp a
 obtain⟨f,d⟩:=bQ.mp b
 exact(List.getElem_inj c).mp (e.trans d.symm)
def B4g{i:Nat}{Q:Unit ->Shared ->Prop}(I:Inv X pins σ H s)(hN:X.N.Nodup)(P:X.N[i]?=some x)(w:Loc X.env.scope x)(r:Y3 v u)(h:∀s',Inv X pins (σ.set i (some v)) H s' ->(∃a,Heap.SameBut a s.heap s'.heap/\(a=X.env.locals\/X.env.cells.lookup x=some a)) ->Q () s')(hf:X.fn x=true\/X.env.scope.names.lookup x=some .local:=by first|exact .inl rfl|exact .inr rfl|assumption):wpAny M A (storeName X.env x u) Q E s:=by
 obtain⟨m,hn,hl⟩:=id I.loc
 have R:(X.env.scope.kind== .class||(X.env.scope.kind== .module&&X.env.locals !=X.env.globals))=false:=by rw[I.ok.kind];rfl
 have F:i<σ.length:=by rw[I.len];exact(bQ.mp P).1
 have cne:=I.cne
 have g:∀{a:Addr} {h':Heap},(∃o,s.heap.get? a=some o/\H a=none) ->Heap.SameBut a s.heap h' ->HOk X.prog X.w H h':=fun{a h'} ha f b ob e=>by
   obtain⟨_,_,B⟩:=ha
   refine(I.hok b ob e).stay (fun c W t q=>(f.2 c ?_).trans q) (fun _ q=>q) fun _ _ q=>q
   rintro rfl
   rcases t with rfl|t
   . rw[B] at e;cases e
   . rw[B] at t;cases t
 rcases w with D|D
 . refine wpAny_storeName_local D hn (fun h' xv f=>?_) R
   obtain⟨oL,_,_,xu,_⟩:=id hn
   refine h _ ⟨I.ok,I.os,I.bare,⟨fun b o e n L w=>?_,fun b o e n L w=>?_,I.base.free,fun b o e w=>?_,I.base.tups,I.base.frzs,I.base.tbls⟩,⟨_,xv,fun j y v' l C e3=>?_⟩,fun y c e=>?_,I.free,I.freeC,fun p hp=>?_,g ⟨oL,xu,I.free⟩ f,by simpa using I.len⟩ ⟨_,f,.inl rfl⟩
   . exact(f.2 b (cA (aQ (bA e) I.ok.above))).trans (I.base.keep b o e n L w)
   . obtain⟨sl,l⟩:=I.base.slot b o e n L w
     exact⟨sl,(f.2 b (cA (aQ (bA e) I.ok.above))).trans l⟩
   . obtain⟨o',l⟩:=I.base.there b o e w
     exact⟨o',(f.2 b (cA (aQ (bA e) I.ok.above))).trans l⟩
   . by_cases G:j=i
     . subst G
       rw[P] at l;cases l
       rw[fZ F] at C
       cases C
       exact⟨u,r,.inl ⟨D,by simp⟩⟩
     . rw[jE (eU G)] at C
       obtain⟨u',r',q⟩:=hl j y v' l C e3
       refine⟨u',r',?_⟩
       rcases q with⟨k,e⟩|⟨k,c,e,z⟩
       . refine .inl ⟨k,?_⟩
         have:y≠x:=fun e=>G (B8n hN l (e▸P))
         simp[this,e]
       . exact .inr ⟨k,c,e,z.sameBut f (cne y c e)⟩
   . obtain⟨W,z⟩:=I.cell y c e
     exact⟨W,z.sameBut f (cne y c e)⟩
   . obtain⟨e,n,Y,nf,d⟩:=I.pin p hp
     exact⟨(f.2 p.1 Y).trans e,n,Y,nf,d⟩
 have J:X.fn x=true:=by
   rcases hf with z|z
   . exact z
   . rw[z] at D;cases D
 obtain⟨c,t⟩:=I.ok.has x (.inl D)
 obtain⟨W,z⟩:=I.cell x c t
 refine wpAny_storeName_cell I.ok.kind D t z (fun h' U f=>?_)
 obtain⟨oc,O,N⟩:=id z
 refine h {s with heap:=h'} ⟨I.ok,I.os,I.bare,⟨fun b o e n L w=>?_,fun b o e n L w=>?_,I.base.free,fun b o e w=>?_,I.base.tups,I.base.frzs,I.base.tbls⟩,⟨m,hn.sameBut f (eU (cne x c t)),fun j y v' l C e3=>?_⟩,fun y Z e=>?_,I.free,I.freeC,fun p hp=>?_,g ⟨oc,O,I.freeC x c t⟩ f,by simpa using I.len⟩ ⟨c,f,.inr t⟩
 . exact(f.2 b (cA (aQ (bA e) (I.ok.cab x c J t)))).trans (I.base.keep b o e n L w)
 . obtain⟨sl,l⟩:=I.base.slot b o e n L w
   exact⟨sl,(f.2 b (cA (aQ (bA e) (I.ok.cab x c J t)))).trans l⟩
 . obtain⟨o',l⟩:=I.base.there b o e w
   exact⟨o',(f.2 b (cA (aQ (bA e) (I.ok.cab x c J t)))).trans l⟩
 . by_cases G:j=i
   . subst G
     rw[P] at l;cases l
     rw[fZ F] at C
     cases C
     exact⟨u,r,.inr ⟨.inl D,c,t,U⟩⟩
   . rw[jE (eU G)] at C
     obtain⟨u',r',q⟩:=hl j y v' l C e3
     refine⟨u',r',?_⟩
     rcases q with q|⟨k,Z,e,z'⟩
     . exact .inl q
     . refine .inr ⟨k,Z,e,z'.sameBut f ?_⟩
       rintro rfl
       exact G (B8n hN l (I.ok.inj _ _ _ e t▸P))
 . by_cases T:Z=c
   . subst T;exact⟨_,U⟩
   . obtain⟨w2,z2⟩:=I.cell y Z e
     exact⟨w2,z2.sameBut f T⟩
 obtain⟨e,n,Y,nf,d⟩:=I.pin p hp
 refine⟨(f.2 p.1 ?_).trans e,n,Y,nf,d⟩
 intro q
 rw[q,O] at e
 have q':oc=p.2:=bF e
 exact d W (by rw[<-q'];exact N)
def A8t{i:Nat}{Q:Unit ->Shared ->Prop}(I:Inv X pins σ H s)(e:X.N.Nodup)(c:X.N[i]?=some x)(b:Loc X.env.scope x)(r:Y3 v u)(h:∀a,Inv X pins (σ.set i (some v)) H a ->Q () a)(d:X.fn x=true\/X.env.scope.names.lookup x=some .local:=by first|exact .inl rfl|exact .inr rfl|assumption):wpAny M A (storeName X.env x u) Q E s:=
 B4g I e c b r (fun a f _=>h a f) d
def Inv.call'{a:Shared}(I:Inv X pins σ H s)(ho:a.os=s.os)(u:Un (frs X.stack) ch H H' s.heap a.heap)(d:HOk X.prog X.w H' a.heap)(h:AllBare a.gens)(f:∀b∈ch,(b∈X.ex\/X.s₀.heap.objs.size<=b)/\b≠X.env.locals/\(∀x c,X.env.cells.lookup x=some c ->c≠b)/\∀p∈X.pn++pins,p.1≠b):Inv X pins σ H' a:=by
 obtain⟨h',g',d',t',g⟩:=a
 have e:g=s.os:=ho
 subst e
 exact I.call (g':=g') (t':=t') (d':=d') u d h f
end
abbrev XK:=Value ->Option Addr ->Hp ->Prop
abbrev St:=List (Option V)
abbrev VK:=V ->Hp ->Prop
abbrev TE:=St ->Hp ->VK ->Prop
abbrev TT:=St ->Hp ->(Bool ->Hp ->Prop) ->Prop
abbrev TA:=St ->Hp ->(List V ->Hp ->Prop) ->Prop
structure B0h where
 nx:St ->Hp ->Prop
 rt:VK
 bk:St ->Hp ->Prop:=fun _ _=>False
 ct:St ->Hp ->Prop:=fun _ _=>False
abbrev TS:=B0h ->St ->Hp ->Prop
inductive EP(X:Cx)(a:List (Addr×Obj))(c:St)(Q:VK)(u:Value)(d:Shared):Prop
 |mk(v b)(_:Inv X a c b d)(_:Y3 v u)(_:Q v b)
def TP(X:Cx)(a:List (Addr×Obj))(d:St)(Q:Bool ->Hp ->Prop)(b:Bool)(e:Shared):Prop:=∃c,Inv X a d c e/\Q b c
inductive AP(X:Cx)(a:List (Addr×Obj))(c:St)(Q:List V ->Hp ->Prop)(us:List Value)(d:Shared):Prop
 |mk(vs b)(_:Inv X a c b d)(_:U7 vs us)(_:Q vs b)
def SP(X:Cx)(b:List (Addr×Obj))(D:B0h)(f:Flow)(d:Shared):Prop:=
 match f with
 | .next=>∃a c,Inv X b a c d/\D.nx a c
 | .brk=>∃a c,Inv X b a c d/\D.bk a c
 | .cont=>∃a c,Inv X b a c d/\D.ct a c
 | .ret u=>∃v a c,Inv X b a c d/\Y3 v u/\D.rt v c
def PE(X:Cx)(e:Expr)(t:TE):Prop:=
 ∀(a:List (Addr×Obj)) (s:Shared) (b:St) (H:Hp) (Q:VK),Inv X a b H s ->t b H Q ->wpAny (model X.prog X.w) X.A (eval e X.env) (EP X a b Q) X.xe s
def PT(X:Cx)(e:Expr)(t:TT):Prop:=
 ∀(a:List (Addr×Obj)) (s:Shared) (b:St) (H:Hp) (Q:Bool ->Hp ->Prop),Inv X a b H s ->t b H Q ->wpAny (model X.prog X.w) X.A (isTrue e X.env (eval e X.env)) (TP X a b Q) X.xe s
def PW(X:Cx)(e:Expr)(t:TT):Prop:=
 ∀(b:Sem Value) (a:List (Addr×Obj)) (s:Shared) (c:St) (H:Hp) (Q:Bool ->Hp ->Prop),Inv X a c H s ->t c H Q ->wpAny (model X.prog X.w) X.A (isTrue e X.env b) (TP X a c Q) X.xe s
def PW.pt(h:PW X e t):PT X e t:=h _
def PA(X:Cx)(c:List Expr)(t:TA):Prop:=
 ∀(pos:Pos) (a:List (Addr×Obj)) (s:Shared) (b:St) (H:Hp) (Q:List V ->Hp ->Prop),Inv X a b H s ->t b H Q ->wpAny (model X.prog X.w) X.A (spliced (backTo pos (starEach c X.env))) (AP X a b Q) X.xe s
def PS(X:Cx)(st:Stmt)(t:TS):Prop:=
 ∀(a:List (Addr×Obj)) (s:Shared) (b:St) (H:Hp) (D:B0h),Inv X a b H s ->t D b H ->wpAny (model X.prog X.w) X.A (exec st X.env) (SP X a D) X.xe s
def PSs(X:Cx)(st:List Stmt)(t:TS):Prop:=
 ∀(a:List (Addr×Obj)) (s:Shared) (b:St) (H:Hp) (D:B0h),Inv X a b H s ->t D b H ->wpAny (model X.prog X.w) X.A (execs st X.env) (SP X a D) X.xe s
def thn{b:Type}{t:Sem b}{Q c:b ->Shared ->Prop}{M:Model}{A:Around}{E:Value ->Shared ->Prop}{s:Shared}(h:wpAny M A t Q E s)(d:∀a s,Q a s ->c a s):wpAny M A t c E s:=bX h d fun _ _ x=>x
section
variable{X:Cx}
def vO:Option (Option V) ->(V ->Prop) ->Prop
 |some (some v),k=>k v
 |_,_=>False
def J7d:∀{o:Option (Option V)} {k:V ->Prop},vO o k ->∃v,o=some (some v)/\k v
 |some (some v),_,h=>⟨v,rfl,h⟩
def A5r{k a:V ->Prop}(f:∀v,k v ->a v)(h:vO o k):vO o a:=by
 obtain⟨v,rfl,q⟩:=J7d h
 exact f v q
def tv{k:V ->Prop}(q:k v)(h:o=some (some v):=by rfl):vO o k:=by
 subst h
 exact q
def vI:V ->(Int ->Prop) ->Prop
 | .int c,k=>k c
 |_,_=>False
def C7p:∀{x:V} {k:Int ->Prop},vI x k ->∃c,x= .int c/\k c
 | .int c,_,h=>⟨c,rfl,h⟩
def A9u{k a:Int ->Prop}(f:∀c,k c ->a c)(h:vI x k):vI x a:=by
 obtain⟨c,rfl,q⟩:=C7p h
 exact f c q
def ti_{k:Int ->Prop}{c:Int}(q:k c)(h:x= .int c:=by rfl):vI x k:=by
 subst h
 exact q
def vJ:V ->(Int ->Prop) ->Prop
 | .int c,k=>k c
 |_,_=>False
def D3p:∀{x:V} {k:Int ->Prop},vJ x k ->∃c,x= .int c/\k c
 | .int c,_,h=>⟨c,rfl,h⟩
def B6b{k a:Int ->Prop}(f:∀c,k c ->a c)(h:vJ x k):vJ x a:=by
 obtain⟨c,rfl,q⟩:=D3p h
 exact f c q
def tj_{k:Int ->Prop}{c:Int}(q:k c)(h:x= .int c:=by rfl):vJ x k:=by
 subst h
 exact q
def U8g(i:Nat):TE:=fun a H Q=>vO a[i]? fun v=>Q v H
def tC(v:V):TE:=fun _ H Q=>Q v H
def U0r{i:Nat}(t:X.N[i]?=some x)(n:Vis X.env.scope x)(f:(x==("__debug__":Str))=false:=by decide)(g:(x==("__classdict__":Str))=false:=by decide):PE X (.Name x pos) (U8g i):=by
 intro d s k H Q I h
 obtain⟨v,e,h⟩:=J7d h
 obtain⟨m,o,q⟩:=I.loc
 obtain⟨u,r,l⟩:=q i x v t e n
 have fin:EP X d k Q u s:=⟨v,H,I,r,h⟩
 rcases l with⟨b,p⟩|⟨b,c,j,a⟩
 . exact wpAny_Name (wpAny_loadName_local I.ok.kind b o p fin) f
 rcases b with b|b
 . exact wpAny_Name (wpAny_loadName_cell I.ok.kind b j a fin) f
 exact wpAny_Name (wpAny_loadName_free I.ok.kind b j a fin g) f
def A4{i j pos}:PE X (.Constant (.int i) j pos) (tC (.int i)):=fun _ _ _ H _ I h=>wpAny_Constant_int ⟨.int i,H,I.tok _,⟨_,rfl⟩,h⟩
def B0q{b j pos}:PE X (.Constant (.bool b) j pos) (tC (.bl b)):=fun _ _ _ H _ I h=>Constant_bool ⟨.bl b,H,I,rfl,h⟩
def A8d{j pos}:PE X (.Constant .none j pos) (tC .non):=fun _ _ _ H _ I h=>Constant_none ⟨.non,H,I,rfl,h⟩
def A9{x j pos}:PE X (.Constant (.str x) j pos) (tC (.str x)):=fun _ _ _ H _ I h=>Calls.Constant_str ⟨.str x,H,I.tok _,⟨_,rfl⟩,h⟩
def Gl(X:Cx)(x:Str):Prop:=X.env.kindOf x=some .globalImplicit
def A2e{Q:Value ->Shared ->Prop}(I:Inv X a e H s)(c:Gl X x)(b:X.mg x=some u)(h:Q u s)(d:(x==("__debug__":Str))=false:=by decide):wpAny (model X.prog X.w) X.A (eval (.Name x pos) X.env) Q E s:=
 Calls.Name_function_global I.ok.kind c (Calls.loadGlobal_global (by rw[I.ok.glob];exact I.mod.glob.keeps I.bk) b h) d
def B8r{Q:Value ->Shared ->Prop}(I:Inv X a j H s)(e:Gl X x)(d:X.mg x=none)(b:bootBuiltins x=some u)(h:Q u s)(c:x≠"__name__":=by decide)(f:(x==("__debug__":Str))=false:=by decide):wpAny (model X.prog X.w) X.A (eval (.Name x pos) X.env) Q E s:=by
 obtain⟨k,i,g⟩:=I.mod.blt
 exact Calls.Name_function_global I.ok.kind e (Calls.loadGlobal_builtin (by rw[I.ok.glob];exact I.mod.glob.keeps I.bk) d (by rw[I.ok.blt];exact i.keeps I.bk) ((g x c).trans b) h) f
def D4c(b:Gl X x)(a:X.mg x=some u)(r:Y3 v u)(c:(x==("__debug__":Str))=false:=by decide):PE X (.Name x pos) (tC v):=
 fun _ _ _ H _ I h=>A2e I b a ⟨v,H,I,r,h⟩ c
def J3s(d:Gl X x)(c:X.mg x=none)(a:bootBuiltins x=some u)(r:Y3 v u)(b:x≠"__name__":=by decide)(e:(x==("__debug__":Str))=false:=by decide):PE X (.Name x pos) (tC v):=
 fun _ _ _ H _ I h=>B8r I d c a ⟨v,H,I,r,h⟩ b e
variable{a b:Expr}{ta tb:TE}{pos:Pos}
def PC(X:Cx)(g:CmpOp)(a b:Expr)(t:TE):Prop:=
 ∀ (c:List (Addr×Obj)) (s:Shared) (f:St) (H:Hp) (Q:VK),Inv X c f H s ->t f H Q ->
   wpAny (model X.prog X.w) X.A (eval a X.env) (fun v e=>wpAny (model X.prog X.w) X.A (eval b X.env) (fun u d=>wpAny (model X.prog X.w) X.A (compareOp g v u) (EP X c f Q) X.xe d) X.xe e) X.xe s
inductive V4d(Q:Bool ->Hp ->Prop)(x:V)(d:Hp):Prop
 |mk{c}(_:x= .bl c)(_:Q c d)
def tB(t:TE):TT:=fun c H Q=>t c H fun x d=>V4d Q x d
def J8e(h:PC X j a b t)(i:behindInMarks j b=false:=by first|exact e _ (by decide) (by decide)|rfl):PT X (.Compare a [j] [b] pos) (tB t):=by
 intro f s k H Q I n
 refine wpAny_isTrue_Compare1 (thn (h f s k H _ I n) fun v y i=>thn i fun u s2 o=>thn o fun c w g=>?_) i
 obtain⟨x,r,p,l,m⟩:=g
 obtain @⟨d,rfl,q⟩:=m
 cases l
 exact fH ⟨r,p,q⟩
def V3{e:Expr}(h:PE X e t)(he:∀c,isTrue e X.env c=(do let v<-c;standAt e.pos;holding [v] (truthy v)):=by intro _;rfl):PT X e (tB t):=by
 intro f s i H Q I l
 refine isTrue_plain (thn (h f s i H _ I l) fun v o g=>?_) (he _)
 obtain⟨x,n,m,j,k⟩:=g
 obtain @⟨d,rfl,q⟩:=k
 cases j
 exact fH ⟨n,m,q⟩
variable{tA tB':TT}{rest:List Expr}
def V1n(t u:TT):TT:=fun d H Q=>t d H fun c e=>if c=true then u d e Q else Q false e
def tOr(t u:TT):TT:=fun d H Q=>t d H fun c e=>if c=true then Q true e else u d e Q
def V3r(t:TT):TT:=fun d H Q=>t d H fun c e=>Q (!c) e
def A3p(g:PT X a tA):PW X (.BoolOp .And [a] pos) tA:=by
 intro wh d s f H Q I h
 refine isTrue_and (thn (g d s f H Q I h) fun c i e=>?_)
 cases c with
 |true=>exact isTrue_and_nil e
 |false=>exact e
def A6u(g:PT X a tA):PW X (.BoolOp .Or [a] pos) tA:=by
 intro wh d s f H Q I h
 refine isTrue_or (thn (g d s f H Q I h) fun c i e=>?_)
 cases c with
 |false=>exact isTrue_or_nil e
 |true=>exact e
def A5u(l:PT X a tA)(k:PW X (.BoolOp .And (b::rest) pos) tB'):PW X (.BoolOp .And (a::b::rest) pos) (V1n tA tB'):=by
 intro wh d s e H Q I h
 refine isTrue_and (thn (l d s e H _ I h) fun c j ⟨i,g,f⟩=>?_)
 cases c with
 |true=>exact k wh d j e i Q g f
 |false=>exact⟨i,g,f⟩
def B0s(l:PT X a tA)(k:PW X (.BoolOp .Or (b::rest) pos) tB'):PW X (.BoolOp .Or (a::b::rest) pos) (tOr tA tB'):=by
 intro wh d s e H Q I h
 refine isTrue_or (thn (l d s e H _ I h) fun c j ⟨i,g,f⟩=>?_)
 cases c with
 |true=>exact⟨i,g,f⟩
 |false=>exact k wh d j e i Q g f
def A2t(f:PT X a tA):PT X (.UnaryOp .Not a pos) (V3r tA):=by
 intro d s e H Q I h
 exact isTrue_not (f d s e H (fun c g=>Q (!c) g) I h)
inductive J6c(tb:TE)(e:St)(Q:VK)(x:V)(d:Hp):Prop
 |mk{c}(_:x= .bl c)(_:if c=true then tb e d Q else Q (.bl false) d)
def U8d(ta tb:TE):TE:=fun c H Q=>ta c H fun x d=>J6c tb c Q x d
inductive U1t(tb:TE)(e:St)(Q:VK)(x:V)(d:Hp):Prop
 |mk{c}(_:x= .bl c)(_:if c=true then Q (.bl true) d else tb e d Q)
def V1g(ta tb:TE):TE:=fun c H Q=>ta c H fun x d=>U1t tb c Q x d
def A3y{e}(h:PE X a t):PE X (.BoolOp e [a] pos) t:=fun c s d H Q I f=>BoolOp_one (h c s d H Q I f)
def A7b(n:PE X a ta)(m:PE X (.BoolOp .And (b::rest) pos) tb):PE X (.BoolOp .And (a::b::rest) pos) (U8d ta tb):=by
 intro d s g H Q I h
 refine BoolOp_and (thn (n d s g H _ I h) fun v k f=>?_)
 obtain⟨x,j,i,l,e⟩:=f
 obtain @⟨c,rfl,e⟩:=e
 cases l
 refine fH ?_
 cases c with
 |true=>exact m d k g j Q i e
 |false=>exact⟨.bl false,j,i,rfl,e⟩
def J6p(n:PE X a ta)(m:PE X (.BoolOp .Or (b::rest) pos) tb):PE X (.BoolOp .Or (a::b::rest) pos) (V1g ta tb):=by
 intro d s g H Q I h
 refine BoolOp_or (thn (n d s g H _ I h) fun v k f=>?_)
 obtain⟨x,j,i,l,e⟩:=f
 obtain @⟨c,rfl,e⟩:=e
 cases l
 refine fH ?_
 cases c with
 |false=>exact m d k g j Q i e
 |true=>exact⟨.bl true,j,i,rfl,e⟩
def tIf(t:TT)(ta tb:TE):TE:=fun d H Q=>t d H fun c e=>if c=true then ta d e Q else tb d e Q
def G6(l:PT X c tA)(n:PE X a ta)(m:PE X b tb):PE X (.IfExp c a b pos) (tIf tA ta tb):=by
 intro e s f H Q I h
 refine wpAny_IfExp (thn (l e s f H _ I h) fun d g ⟨k,j,i⟩=>?_)
 cases d with
 |true=>exact n e g f k Q j i
 |false=>exact m e g f k Q j i
end
def SqL(K:W.Frag)(H:Hp)(a:Addr)(xs:List V):Prop:=
 Rd H a (.lst xs)\/
   ∃(o:Obj) (b:Array Value) (n:Nat),K.lookup a=some o/\o.cls= .type "list"/\o.dict=none/\o.data= .seq b n/\b.size<=sizeLine/\U7 xs b.toList
def SqT(K:W.Frag)(H:Hp)(a:Addr)(xs:List V):Prop:=
 Rd H a (.tup xs)\/
   ∃(o:Obj) (b:Array Value) (n:Nat),K.lookup a=some o/\o.cls= .type "tuple"/\o.data= .seq b n/\b.size<=sizeLine/\U7 xs b.toList
def V1h:Value ->Option V
 | .none=>some .non
 | .bool b=>some (.bl b)
 | .int i _=>some (.int i)
 | .str x _=>some (.str x)
 | .bytes b _=>some (.byt b)
 | .float b _=>some (.flt b)
 | .ref a=>some (.ref a)
 | .type n=>some (.ty n)
 |_=>none
def Y3.abs(r:Y3 x u):V1h u=some x:=by
 cases x with
 |non=>cases r;rfl
 |bl _=>cases r;rfl
 |int _=>obtain⟨t,rfl⟩:=r;rfl
 |str _=>obtain⟨t,rfl⟩:=r;rfl
 |byt _=>obtain⟨t,rfl⟩:=r;rfl
 |flt _=>obtain⟨t,rfl⟩:=r;rfl
 |ref _=>cases r;rfl
 |ty _=>cases r;rfl
def Y3.inj(r:Y3 x u)(q:Y3 y u):x=y:=bF (r.abs.symm.trans q.abs)
def U7.inj:∀{xs ys:List V} {us:List Value},U7 xs us ->U7 ys us ->xs=ys
 |_,_,_,.nil,.nil=>rfl
 |_,_,_,.cons r t,.cons a t'=>by rw[r.inj a,U7.inj t t']
section
variable{X:Cx}{pins:List (Addr×Obj)}{σ:St}{H:Hp}{s:Shared}{a:Addr}{xs ys:List V}
def SqL.of{K:W.Frag}(h:H a=some (.lst xs)):SqL K H a xs:= .inl (.inl h)
def SqT.of{K:W.Frag}(h:H a=some (.tup xs)):SqT K H a xs:= .inl (.inl h)
def Inv.list(I:Inv X pins σ H s)(h:SqL X.K H a xs):∃b:List Value,U7 xs b/\PlainL s.heap a b.toArray/\xs.length<=sizeLine:=by
 rcases h with h|⟨o,b,n,d,g,f,c,i,r⟩
 . obtain⟨z,b,n,r,e⟩:=h.ok I.hok
   exact⟨b,r,⟨_,n,e,rfl,rfl,rfl⟩,z⟩
 refine⟨b.toList,r,⟨o,n,I.kIn a o d,g,f,by simpa using c⟩,?_⟩
 have e:=r.length
 simp only[Array.length_toList] at e
 lia
def Inv.tuple(I:Inv X pins σ H s)(h:SqT X.K H a xs):∃b:List Value,U7 xs b/\IsTup s.heap a b.toArray/\xs.length<=sizeLine:=by
 rcases h with h|⟨o,b,n,d,f,c,g,r⟩
 . obtain⟨z,b,r,p⟩:=h.ok I.hok
   exact⟨b,r,p,z⟩
 refine⟨b.toList,r,⟨o,I.kIn a o d,f,n,by simpa using c⟩,?_⟩
 have e:=r.length
 simp only[Array.length_toList] at e
 lia
def Inv.list_inj(I:Inv X pins σ H s)(h:SqL X.K H a xs)(h':SqL X.K H a ys):xs=ys:=by
 obtain⟨b,r,⟨o,n,e,_,_,d⟩,_⟩:=I.list h
 obtain⟨its',f,⟨i,j,c,_,_,d'⟩,_⟩:=I.list h'
 rw[e] at c;cases c
 rw[d] at d'
 injection d' with g _
 have:b=its':=by simpa using aM Array.toList g
 subst this
 exact r.inj f
def Inv.tuple_inj(I:Inv X pins σ H s)(h:SqT X.K H a xs)(h':SqT X.K H a ys):xs=ys:=by
 obtain⟨b,r,⟨o,e,_,n,d⟩,_⟩:=I.tuple h
 obtain⟨its',f,⟨i,c,_,j,d'⟩,_⟩:=I.tuple h'
 rw[e] at c;cases c
 rw[d] at d'
 injection d' with g _
 have:b=its':=by simpa using aM Array.toList g
 subst this
 exact r.inj f
end
abbrev Cx.wish(X:Cx)(E:Value ->Shared ->Prop):Cx:={X with xe:=E}
abbrev Cx.nox(X:Cx):Cx:=X.wish fun _ _=>False
def Cx.Ok.wish{X:Cx}(ok:X.Ok)(E:Value ->Shared ->Prop):(X.wish E).Ok:=
 ⟨ok.mod,ok.kind,ok.glob,ok.blt,ok.above,ok.inj,ok.has,ok.cab,ok.hd,ok.frames,ok.stk,ok.exf,ok.bs,ok.bsz,ok.noex,ok.exfs,ok.funs,ok.frf⟩
def Cx.Ok.unwish{X:Cx}(ok:(X.wish E).Ok):X.Ok:=
 ⟨ok.mod,ok.kind,ok.glob,ok.blt,ok.above,ok.inj,ok.has,ok.cab,ok.hd,ok.frames,ok.stk,ok.exf,ok.bs,ok.bsz,ok.noex,ok.exfs,ok.funs,ok.frf⟩
section
variable{X:Cx}{pins:List (Addr×Obj)}{σ:St}{H:Hp}{s:Shared}{E:Value ->Shared ->Prop}
def Inv.wish(I:Inv X pins σ H s)(E:Value ->Shared ->Prop):Inv (X.wish E) pins σ H s:=⟨I.ok.wish E,I.os,I.bare,I.base,I.loc,I.cell,I.free,I.freeC,I.pin,I.hok,I.len⟩
def Inv.unwish(I:Inv (X.wish E) pins σ H s):Inv X pins σ H s:=⟨I.ok.unwish,I.os,I.bare,I.base,I.loc,I.cell,I.free,I.freeC,I.pin,I.hok,I.len⟩
def SP.unwish(h:SP (X.wish E) pins D f c):SP X pins D f c:=by
 cases f with
 |next=>obtain⟨a,b,I,q⟩:=h;exact⟨a,b,I.unwish,q⟩
 |brk=>obtain⟨a,b,I,q⟩:=h;exact⟨a,b,I.unwish,q⟩
 |cont=>obtain⟨a,b,I,q⟩:=h;exact⟨a,b,I.unwish,q⟩
 |ret u=>obtain⟨v,a,b,I,r,q⟩:=h;exact⟨v,a,b,I.unwish,r,q⟩
def PSs.nox{st:List Stmt}(h:PSs X.nox st t):PSs X st t:=fun pins s σ H D I a=>
 bX (h pins s σ H D (I.wish _) a) (fun _ _ q=>q.unwish) fun _ _ z=>False.elim z
end
section
variable{X:Cx}{st:Stmt}{rest:List Stmt}{t u:TS}{e:Expr}{te:TE}{pos:Pos}
def U4w:TS:=fun D a H=>D.nx a H
def J4s(t u:TS):TS:=fun D a H=>t {D with nx:=u D} a H
def C0:PSs X [] U4w:=fun _ _ a H _ I h=>gG ⟨a,H,I,h⟩
def A2(i:PS X st t)(g:PSs X rest u):PSs X (st::rest) (J4s t u):=by
 intro a s c H D I h
 refine wpAny_execs_cons (thn (i a s c H {D with nx:=u D} I h) fun f d q=>?_)
 cases f with
 | next=>
   obtain⟨b,k,j,q⟩:=q
   exact g a d b k D j q
 |ret v=>exact q
 |brk=>exact q
 |cont=>exact q
def A3(c:PS X st t):PSs X [st] t:=by
 intro a s b H D I h
 refine wpAny_execs_cons (thn (c a s b H D I h) fun f d q=>?_)
 cases f with
 |next=>exact gG q
 |ret v=>exact q
 |brk=>exact q
 |cont=>exact q
def Inv.quiet(I:Inv X a b H s):interactive X.env=false:=by simp[interactive,I.ok.kind]
def U6s(te:TE):TS:=fun D a H=>te a H fun _ b=>D.nx a b
def J9(he:PE X e te)(d:swapsWith e none pos.line X.env=pure false:=by rfl):PS X (.Expr e pos) (U6s te):=by
 intro a s b H D I h
 exact wpAny_Expr_any (thn (he a s b H _ I h) fun v i ⟨x,g,f,j,c⟩=>⟨b,g,f,c⟩) I.quiet d
def V2r(te:TE):TS:=fun D a H=>te a H D.rt
def A7(he:PE X e te):PS X (.Return (some e) pos) (V2r te):=by
 intro a s b H D I h
 exact wpAny_Return_some (thn (he a s b H _ I h) fun v i ⟨x,g,f,c,d⟩=>⟨x,b,g,f,c,d⟩)
def V0v(c:TT)(t u:TS):TS:=fun D a H=>c a H fun b d=>if b=true then t D a d else u D a d
def D3(m:PT X c tc)(o:PSs X a t)(n:PSs X b u):PS X (.If c a b pos) (V0v tc t u):=by
 intro f s g H D I h
 refine wpAny_If (thn (m f s g H _ I h) fun d i ⟨l,k,j⟩=>?_)
 cases d with
 |true=>exact o f i g l D k j
 |false=>exact n f i g l D k j
end
abbrev TG:=V ->St ->Hp ->(St ->Hp ->Prop) ->Prop
abbrev TGs:=List V ->St ->Hp ->(St ->Hp ->Prop) ->Prop
def PG(X:Cx)(a:Expr)(t:TG):Prop:=
 ∀ (b:List (Addr×Obj)) (s:Shared) (d:St) (H:Hp) (v:V) (u:Value) (Q:St ->Hp ->Prop),Inv X b d H s ->Y3 v u ->t v d H Q ->
   wpAny (model X.prog X.w) X.A (assign a X.env u) (fun _ f=>∃c e,Inv X b c e f/\Q c e) X.xe s
def PGs(X:Cx)(e:List Expr)(t:TGs):Prop:=
 ∀ (a:List (Addr×Obj)) (s:Shared) (c:St) (H:Hp) (vs:List V) (us:List Value) (Q:St ->Hp ->Prop),Inv X a c H s ->U7 vs us ->t vs c H Q ->
   wpAny (model X.prog X.w) X.A (assignInOrder ((assignEach e X.env).map (·.2)) us) (fun _ f=>∃b d,Inv X a b d f/\Q b d) X.xe s
abbrev U1g:=V ->V ->V ->Hp ->(Hp ->Prop) ->Prop
def U7n(X:Cx)(t:U1g):Prop:=
 ∀ (a:List (Addr×Obj)) (s:Shared) (b:St) (H:Hp) (o i v:V) (c d u:Value) (Q:Hp ->Prop),Inv X a b H s ->Y3 o c ->Y3 i d ->Y3 v u ->t o i v H Q ->
   wpAny (model X.prog X.w) X.A (setItem c d u) (fun _ f=>∃e,Inv X a b e f/\Q e) X.xe s
abbrev TIp:=V ->V ->Hp ->VK ->Prop
def PIp(X:Cx)(c:Operator)(t:TIp):Prop:=
 ∀ (a:List (Addr×Obj)) (s:Shared) (b:St) (H:Hp) (x y:V) (v u:Value) (Q:VK),Inv X a b H s ->Y3 x v ->Y3 y u ->t x y H Q ->
   wpAny (model X.prog X.w) X.A (inplaceOp c v u) (EP X a b Q) X.xe s
section
variable{X:Cx}{pos:Pos}
def C0u(i:Nat):TG:=fun v a H Q=>Q (a.set i (some v)) H
def A1f{i:Nat}(e:X.N.Nodup)(c:X.N[i]?=some x)(b:Loc X.env.scope x)(d:X.fn x=true\/X.env.scope.names.lookup x=some .local:=by first|exact .inl rfl|exact .inr rfl|assumption):PG X (.Name x pos) (C0u i):=by
 intro a s g H v u Q I r h
 exact jX (A8t I e c b r (fun j f=>⟨_,H,f,h⟩) d)
def V3e:TGs:=fun vs a H Q=>vs=[]/\Q a H
inductive U9d(t:TG)(u:TGs)(vs:List V)(b:St)(H:Hp)(Q:St ->Hp ->Prop):Prop
 |mk(v r)(_:vs=v::r)(_:t v b H fun a c=>u r a c Q)
def J4y:PGs X [] V3e:=by
 intro a s b H vs us Q I r h
 obtain⟨e,h⟩:=h
 subst e
 cases r
 exact assignInOrder_nil ⟨b,H,I,h⟩
def C5f(m:PG X e t)(l:PGs X d u)(k:(assignEach (e::d) X.env).map (·.2)=assign e X.env::(assignEach d X.env).map (·.2):=by rfl):PGs X (e::d) (U9d t u):=by
 intro a s f H vs us Q I r h
 obtain⟨v,q,n,h⟩:=h
 subst n
 cases r with
 | cons r i=>
   rw[k]
   refine assignInOrder_cons (thn (m a s f H _ _ _ I r h) fun _ g c=>?_)
   obtain⟨b,p,o,j⟩:=c
   exact l a g b p _ _ Q o i j
inductive V3x(K:W.Frag)(n:Nat)(t:TGs)(v:V)(b:St)(H:Hp)(Q:St ->Hp ->Prop):Prop
 |mk(a xs)(_:v= .ref a)(_:SqT K H a xs)(_:xs.length=n)(_:t xs b H Q)
def U1a{k:Nat}{n:Nat}(y:X.calm=true)(h:PGs X g t)(w:(assignEach g X.env).length=n:=by rfl)(f:(assignEach g X.env).findIdx? (·.1)=none:=by rfl):PG X (.Tuple g k pos) (V3x X.K n t):=by
 intro c s i H v u Q I r d
 obtain⟨a,xs,z,q,x,d⟩:=d
 subst z
 cases r
 obtain⟨l,j,p,B⟩:=I.tuple q
 refine assign_Tuple_tuple (I.ok.hd y) p (by simp[w, <-x,j.length]) f fun h' m=>?_
 have A:Inv X c i H {s with heap:=h'}:=I.kept (t':=s.toks) fun b o e=>m b o (cA (bA e)) e
 exact h c _ i H xs _ Q A (by simpa using j) d
def V1s(to b:TE)(t:U1g):TG:=fun v a H Q=>to a H fun o e=>b a e fun i d=>t o i v d fun c=>Q a c
def G0d{to f:TE}(ho:PE X o to)(q:PE X i f)(p:U7n X t)(w:∀v,assign (.Subscript o i pos) X.env v=(do
     let c<-holding [v] (eval o X.env)
     let d<-holding [v,c] (eval i X.env)
     standAt pos
     holding [v,c,d] (setItem c d v)
     release [v,c,d] []):=by intro _;rfl):PG X (.Subscript o i pos) (V1s to f t):=by
 intro a s e H v u Q I r h
 rw[w]
 refine aE (eI (thn (ho a s e H _ I h) fun c g b=>?_))
 obtain⟨x,E,B,k,n⟩:=b
 refine aE (eI (thn (q a g e E _ B n) fun d s2 b=>?_))
 obtain⟨y,D,A,j,m⟩:=b
 refine aE (fw (aE (eI (thn (p a s2 e D x y v c d u _ A k j r m) fun _ F ⟨C,z,l⟩=>?_))))
 exact wpAny_release ⟨e,C,z,l⟩
def G2j(b:TE)(g:TG):TS:=fun D a H=>b a H fun x c=>g x a c D.nx
def C9m(he:PE X e f)(n:PG X b g)(m:swapsWithSole [b] e pos.line X.env=pure false:=by rfl)(l:swappedStores [b] e X.env=pure none:=by rfl)(o:(assignEach [b] X.env).map (·.2)=[assign b X.env]:=by rfl):PS X (.Assign [b] e pos) (G2j f g):=by
 intro a s d H D I h
 refine wpAny_Assign_stores (thn (he a s d H _ I h) fun v i c=>?_) m l
 obtain⟨x,r,p,j,k⟩:=c
 rw[o]
 exact thn (n a i d r x v _ p j k) fun _ s2 q=>q
def D4{i:Nat}(o:X.N.Nodup)(m:X.N[i]?=some x)(k:Loc X.env.scope x)(he:PE X e f)(l:swapsWith e (some (.Name x a)) pos.line X.env=pure false:=by rfl)(n:X.fn x=true\/X.env.scope.names.lookup x=some .local:=by first|exact .inl rfl|exact .inr rfl|assumption):
   PS X (.Assign [.Name x a] e pos) (G2j f (C0u i)):=by
 intro b s d H D I h
 refine wpAny_Assign_Name (thn (he b s d H _ I h) fun v t c=>?_) l
 obtain⟨y,r,q,g,j⟩:=c
 exact A8t q o m k g (fun s2 p=>⟨_,r,p,j⟩) n
inductive V4c(i:Nat)(c:TE)(b:TIp)(D:B0h)(a:St)(H:Hp):Prop
 |mk(x)(_:a[i]?=some (some x))(_:c a H fun y e=>b x y e fun z d=>D.nx (a.set i (some z)) d)
def U0g{i:Nat}(R:X.N.Nodup)(A:X.N[i]?=some x)(o:Loc X.env.scope x)(he:PE X e C)(ho:PIp X t B)(P:X.fn x=true\/X.env.scope.names.lookup x=some .local:=by first|exact .inl rfl|exact .inr rfl|assumption):
   PS X (.AugAssign (.Name x q) t e pos) (V4c i C B):=by
 intro a s p H D I h
 obtain⟨v,T,h⟩:=h
 obtain⟨m,M,O⟩:=I.loc
 have n:Vis X.env.scope x:=by rcases o with k|k;exact .inl k;exact .inr (.inl k)
 obtain⟨u,r,l⟩:=O i x v A T n
 refine wpAny_AugAssign_Name ?_
 have go:wpAny (model X.prog X.w) X.A (eval e X.env) (fun w j=>wpAny (model X.prog X.w) X.A (inplaceOp t u w) (fun r g=>wpAny (model X.prog X.w) X.A (storeName X.env x r) (fun _=>SP X a D .next) X.xe g) X.xe j) X.xe s:=by
   refine thn (he a s p H _ I h) fun w E d=>?_
   obtain⟨y,H1,Y,G,L⟩:=d
   refine thn (ho a E p H1 v y u w _ Y r G L) fun z s2 d=>?_
   obtain⟨zv,Z,W,F,J⟩:=d
   exact A8t W R A o F (fun s3 U=>⟨_,Z,U,J⟩) P
 rcases l with⟨b,N⟩|⟨b,c,Q,f⟩
 . exact wpAny_loadName_local I.ok.kind b M N go
 rcases b with b|b
 . exact wpAny_loadName_cell I.ok.kind b Q f go
 rcases o with k|k
 . have:X.env.scope.names.lookup x=some .free:=b
   rw[k] at this;cases this
 have:X.env.scope.names.lookup x=some .free:=b
 rw[k] at this;cases this
inductive ipI(f:Int ->Int ->Int)(x y:V)(H:Hp)(Q:VK):Prop
 |mk(i j)(_:x= .int i)(_:y= .int j)(_:Q (.int (f i j)) H)
def J9y:PIp X .Add (ipI fun i j=>i+j):=by
 intro a s f H x y v u Q I c b h
 obtain⟨i,j,e,d,q⟩:=h
 subst e;subst d
 obtain⟨t,rfl⟩:=c
 obtain⟨t',rfl⟩:=b
 exact iadd_int ⟨.int _,H,I.tok _,⟨_,rfl⟩,q⟩
end
section
variable{X:Cx}{pos:Pos}
inductive G5p(c:TT)(h:TS)(D:B0h)(a:St)(H:Hp):Prop
 |mk(W:Nat ->St ->Hp ->Prop)(_:∃m,W m a H)(_:∀m a H,W m a H ->c a H fun b f=>if b=true then∃N:St ->Hp ->Prop,(∀d g,N d g ->∃e,e<m/\W e d g)/\h {D with nx:=N,ct:=N,bk:=D.nx} a f else D.nx a f)
def B2r(t:PassesOwn (model X.prog X.w) X.A X.env X.xe)(L:PT X c tc)(M:PSs X j E):PS X (.While c j [] pos) (G5p tc E):=by
 intro d s A H D I h
 obtain⟨W,⟨J,C⟩,i⟩:=h
 refine wpAny_While (codeAny_whileLoop (fun n G=>∃g z,Inv X d g z G/\W n g z) ?_ J ⟨A,H,I,C⟩)
 rintro n F ⟨e,y,O,B⟩
 refine fE t (thn (L d F e y _ O (i n e y B)) fun b s2 ⟨x,w,m⟩=>?_)
 cases b with
 | true=>
   obtain⟨N,u,m⟩:=m
   rw[aC rfl]
   refine fE t (thn (M d s2 e x _ w m) fun f P l=>?_)
   cases f with
   | next=>
     obtain⟨a,k,r,o⟩:=l
     obtain⟨p,q,w3⟩:=u a k o
     exact⟨p,q,a,k,r,w3⟩
   | cont=>
     obtain⟨a,k,r,o⟩:=l
     obtain⟨p,q,w3⟩:=u a k o
     exact⟨p,q,a,k,r,w3⟩
   |brk=>exact l
   |ret v=>exact l
 | false=>
   rw[aA aB]
   exact gG ⟨e,x,w,m⟩
end
structure It where
 go:Nat ->Hp ->Prop
 yld:Nat ->Hp ->V ->Hp ->Prop
 stop:Nat ->Hp ->Prop
def B5w(X:Cx)(a:List (Addr×Obj))(H:Hp)(b:Addr):Prop:=
 H b=none/\b≠X.env.locals/\b ∉ X.fs/\(b∈X.ex\/X.s₀.heap.objs.size<=b)/\(∀x c,X.env.cells.lookup x=some c ->c≠b)/\∀p∈X.pn++a,p.1≠b
def Inv.fpOk{H f:Hp}{s:Shared}(I:Inv X a i H s)(d:s.heap.objs.size<=b)(h:f b=none):B5w X a f b:=by
 refine⟨h,Nat.ne_of_gt (aQ I.lt d),I.nofs d,.inr (bS I.sz d),fun x c e z=>?_,fun p g z=>?_⟩
 . obtain⟨v,q⟩:=I.cell x c e
   exact absurd (aQ q.lt (by rw[z];exact d)) (eG _)
 exact absurd (aQ (bA (I.pin p g).1) (by rw[z];exact d)) (eG _)
structure G5c(P:Program)(w:World)(K:PySem.W.Frag)(tg:Expr)(J:It)(fp:List Addr)(it:Addr)(tn:Nat ->Heap ->Prop):Prop where
 mem:it∈fp
 obj:∀i h,tn i h ->∀b∈fp,∃o,h.get? b=some o/\∀v,o.data≠ .cell v
 keep:∀i h h',tn i h ->(∀b∈fp,∀o,h.get? b=some o ->h'.get? b=some o) ->tn i h'
 item:∀(X:Cx),X.prog=P ->X.w=w ->X.K=K ->X.calm=true ->∀(i:Nat) (pins:List (Addr×Obj)) (s:Shared) (σ:St) (H:Hp) (E:Value ->Shared ->Prop),Inv X pins σ H s ->(∀b∈fp,B5w X pins H b) ->tn i s.heap ->J.go i H ->
   wpAny (model P w) X.A (pyNext (.ref it)) (fun r s1=>∃u,r=some u/\
     wpAny (model P w) X.A (letOwnedTupleGo tg (.ref it) u) (fun _ s2=>∃x H',Inv X pins σ H' s2/\Y3 x u/\J.yld i H x H'/\tn (i+1) s2.heap/\∀b∈fp,H' b=none) E s1) E s
 done:∀(X:Cx),X.prog=P ->X.w=w ->X.K=K ->X.calm=true ->∀(i:Nat) (pins:List (Addr×Obj)) (s:Shared) (σ:St) (H:Hp) (E:Value ->Shared ->Prop),Inv X pins σ H s ->(∀b∈fp,B5w X pins H b) ->tn i s.heap ->J.stop i H ->
   wpAny (model P w) X.A (pyNext (.ref it)) (fun r s1=>r=none/\Inv X pins σ H s1) E s
 self:∀(A:Around) (i:Nat) (s:Shared) (Q:Value ->Shared ->Prop) (E:Value ->Shared ->Prop),tn i s.heap ->Q (.ref it) s ->wpAny (model P w) A (pyIter (.ref it)) Q E s
abbrev TI:=St ->Hp ->(It ->Hp ->Prop) ->Prop
inductive PIE(X:Cx)(a:List (Addr×Obj))(h:St)(i:Expr)(R:It ->Hp ->Prop)(c:Value)(s2:Shared):Prop
 |mk(f:Addr) (g:List Addr) (e:Nat ->Heap ->Prop) (J:It) (d:Hp)(_:c= .ref f)(_:Inv X a h d s2)(_:G5c X.prog X.w X.K i J g f e)(_:e 0 s2.heap)(_:∀b∈g,B5w X a d b)(_:R J d)
def PI(X:Cx)(e b:Expr)(d:TI):Prop:=
 ∀ (a:List (Addr×Obj)) (s:Shared) (c:St) (H:Hp) (R:It ->Hp ->Prop),Inv X a c H s ->d c H R ->
   wpAny (model X.prog X.w) X.A (eval b X.env) (fun v f=>wpAny (model X.prog X.w) X.A (pyIter v) (PIE X a c e R) X.xe f) X.xe s
def D4w{s:Shared}{o:Obj}{Q:Unit ->Shared ->Prop}(ho:s.heap.get? c=some o)(f:o.cls= .type n)(e:o.data= .fields vs)(d: ["enumerate","zip","dict_itemiterator","dict_reverseitemiterator","odict_iterator","itertools.zip_longest","itertools.pairwise"].contains n=false)(a:Q () s):wpAny M A (letOwnedTupleGo b (.ref c) u) Q E s:=by
 unfold letOwnedTupleGo
 cases b <;>first
   |exact aR a
   |(cases u<;>first
       |exact aR a
       | (refine aE (wpAny_load ho ?_)
          rw[f,e]
          show wpAny M A (if(["enumerate","zip","dict_itemiterator","dict_reverseitemiterator","odict_iterator","itertools.zip_longest","itertools.pairwise"].contains n&&vs[0]?==some (rawInt _))=true then _ else _) Q E s
          rw[aA (by intro h;rw[d,Bool.false_and] at h;cases h)]
          exact aR a))
def Itl(K:W.Frag)(a:Addr):It:=
 ⟨fun i H=>∃xs x,SqL K H a xs/\xs[i]?=some x,fun i H x b=>b=H/\∀xs,SqL K H a xs ->xs[i]?=some x,fun i H=>∃xs,SqL K H a xs/\xs.length<=i⟩
def Itt(K:W.Frag)(a:Addr):It:=
 ⟨fun i H=>∃xs x,SqT K H a xs/\xs[i]?=some x,fun i H x b=>b=H/\∀xs,SqT K H a xs ->xs[i]?=some x,fun i H=>∃xs,SqT K H a xs/\xs.length<=i⟩
def Itr(lo:Int)(n:Nat):It:=⟨fun i _=>i<n,fun i H x a=>a=H/\x= .int (lo+i),fun i _=>n<=i⟩
def D7c{K:PySem.W.Frag}(a g:Addr):G5c P w K tg (Itl K a) [g] g (fun i h=>h.IsListIter g a i) where
 mem:=by simp
 obj:=fun i h st b j=>by
   have e:b=g:=by simpa using j
   subst e
   obtain⟨o,e,c,d⟩:=st
   exact⟨o,e,fun v z=>by rw[d] at z;cases z⟩
 keep:=fun i h h' st k=>st.at fun o e=>k g (by simp) o e
 item:=by
   intro X B y C N i f s M H E I n st A
   subst B y C
   obtain⟨xs,x,m,t⟩:=A
   obtain⟨r,q,p,R⟩:=I.list m
   obtain⟨u,U,Q⟩:=q.get t
   obtain⟨L,J,W,G,F,D⟩:=n g (by simp)
   refine wpAny_pyNext_list_item st p.isList (x:=u) (by simpa using U) fun h' l O=>?_
   have Z:Inv X f M H {s with heap:=h'}:=I.turned (t':=s.toks) (fun b o j e=>(O.2 b j).trans e) L J G F D
   obtain⟨o,e,c,d⟩:=id l
   exact⟨u,rfl,D4w (s:={s with heap:=h'}) e c d (by decide) ⟨x,H,Z,Q,⟨rfl,fun ys T=>by rw[I.list_inj T m];exact t⟩,l,fun b j=>(n b j).1⟩⟩
 done:=by
   intro X B y C N i f s M H E I n st A
   subst B y C
   obtain⟨xs,m,t⟩:=A
   obtain⟨r,q,p,R⟩:=I.list m
   obtain⟨L,J,W,G,F,D⟩:=n g (by simp)
   have hl:=q.length
   exact wpAny_pyNext_list_end (I.ok.hd N) st p.isList (by simp;lia) fun h' Y=>⟨rfl,I.turned (t':=s.toks) (fun b o j e=>Y b o j e) L J G F D⟩
 self:=fun _ _ _ _ _ st h=>wpAny_pyIter_listiter st h
def C8k{K:PySem.W.Frag}(a j:Addr):G5c P w K tg (Itt K a) [j] j (fun i h=>h.IsTupleIter j a i) where
 mem:=by simp
 obj:=fun i h st b l=>by
   have e:b=j:=by simpa using l
   subst e
   obtain⟨o,e,c,d⟩:=st
   exact⟨o,e,fun v z=>by rw[d] at z;cases z⟩
 keep:=fun i h h' st k=>st.at fun o e=>k j (by simp) o e
 item:=by
   intro X B y C N i f s M H E I q st A
   subst B y C
   obtain⟨xs,x,n,t⟩:=A
   obtain⟨g,r,p,R⟩:=I.tuple n
   obtain⟨u,U,Q⟩:=r.get t
   obtain⟨L,J,W,G,F,D⟩:=q j (by simp)
   refine wpAny_pyNext_tuple_item st (show s.heap.IsTuple a g.toArray from p) (x:=u) (by simpa using U) fun h' m O=>?_
   have Z:Inv X f M H {s with heap:=h'}:=I.turned (t':=s.toks) (fun b o l e=>(O.2 b l).trans e) L J G F D
   obtain⟨o,e,c,d⟩:=id m
   exact⟨u,rfl,D4w (s:={s with heap:=h'}) e c d (by decide) ⟨x,H,Z,Q,⟨rfl,fun ys T=>by rw[I.tuple_inj T n];exact t⟩,m,fun b l=>(q b l).1⟩⟩
 done:=by
   intro X B y C N i f s M H E I q st A
   subst B y C
   obtain⟨xs,n,t⟩:=A
   obtain⟨g,r,p,R⟩:=I.tuple n
   obtain⟨L,J,W,G,F,D⟩:=q j (by simp)
   have hl:=r.length
   exact wpAny_pyNext_tuple_end (I.ok.hd N) st (show s.heap.IsTuple a g.toArray from p) (by simp;lia) fun h' Y=>⟨rfl,I.turned (t':=s.toks) (fun b o l e=>Y b o l e) L J G F D⟩
 self:=fun _ _ _ _ _ st h=>wpAny_pyIter_tupleiter st h
def D0m{K:PySem.W.Frag}(c:Addr)(lo:Int)(n:Nat):G5c P w K L (Itr lo n) [c] c (fun i h=>IsRangeIter h c (lo+(i:Nat)*1) ((n:Int)- (i:Nat)) 1) where
 mem:=by simp
 obj :=fun i h st b d=>by
   have e:b=c:=by simpa using d
   subst e
   exact⟨_,st,fun v z=>by
     have C:Data.fields _=Data.cell v:=z
     cases C⟩
 keep:=fun i h h' st k=>k c (by simp) _ st
 item:=by
   intro X p j q m i a s B H E I g st l
   subst p j q
   obtain⟨A,y,F,x,u,r⟩:=g c (by simp)
   have W:=Walks.range (prog:=X.prog) (w:=X.w) (I.ok.hd m) c lo 1 n
   refine W.item i s _ _ l st fun v h' tk D f kk=>?_
   obtain⟨t,rfl⟩:=D
   have J:Inv X a B H {s with heap:=h',toks:=tk}:=I.turned (fun b o d e=>kk b o (by simpa using d) e) A y x u r
   refine⟨_,rfl,D4w (s:={s with heap:=h',toks:=tk}) (n:="range_iterator") f rfl rfl (by decide) ⟨.int (lo+i),H,J,⟨t,?_⟩,⟨rfl,rfl⟩,f,fun b d=>(g b d).1⟩⟩
   rw[fV]
 done:=by
   intro X p j q m i a s B H E I g st l
   subst p j q
   obtain⟨A,y,F,x,u,r⟩:=g c (by simp)
   exact wpAny_pyNext_range_end (I.ok.hd m) st (by have:n<=i:=l;lia) fun h' G=>⟨rfl,I.turned (t':=s.toks) (fun b o d e=>G b o d e) A y x u r⟩
 self:=fun _ _ _ _ _ st h=>wpAny_pyIter_rangeiter st h
section
variable{X:Cx}{tg:Expr}
inductive J6a(K:W.Frag)(R:It ->Hp ->Prop)(x:V)(b:Hp):Prop
 |mk(a)(_:x= .ref a)(_:∃xs,SqL K b a xs)(_:R (Itl K a) b)
def U4s(K:W.Frag)(b:TE):TI:=fun a H R=>b a H fun x c=>J6a K R x c
inductive U1n(K:W.Frag)(R:It ->Hp ->Prop)(x:V)(b:Hp):Prop
 |mk(a)(_:x= .ref a)(_:∃xs,SqT K b a xs)(_:R (Itt K a) b)
def U8j(K:W.Frag)(b:TE):TI:=fun a H R=>b a H fun x c=>U1n K R x c
def A7j(t:PE X l j):PI X tg l (U4s X.K j):=by
 intro c s i H R I h
 refine thn (t c s i H _ I h) fun v d g=>?_
 obtain⟨x,w,f,k,m⟩:=g
 obtain⟨a,e,⟨xs,r⟩,q⟩:=m
 subst e
 cases k
 obtain⟨n,y,p,z⟩:=f.list r
 refine wpAny_pyIter_list p.isList ?_
 refine⟨d.heap.objs.size,[d.heap.objs.size],_,_,w,rfl,f.kept (t':=d.toks) fun b o e=>aF _ e,D7c a _,⟨_,bV _ rfl,rfl,rfl⟩,fun b u=>?_,q⟩
 have e:b=d.heap.objs.size:=by simpa using u
 subst e
 exact f.fpOk (aO _) (f.hok.fresh (aO _))
def J8n(t:PE X l k):PI X tg l (U8j X.K k):=by
 intro d s j H R I h
 refine thn (t d s j H _ I h) fun v c i=>?_
 obtain⟨x,w,f,m,n⟩:=i
 obtain⟨a,e,⟨xs,r⟩,q⟩:=n
 subst e
 cases m
 obtain⟨g,y,p,z⟩:=f.tuple r
 refine wpAny_pyIter_tuple (show c.heap.IsTuple a g.toArray from p) ?_
 refine⟨c.heap.objs.size,[c.heap.objs.size],_,_,w,rfl,f.kept (t':=c.toks) fun b o e=>aF _ e,C8k a _,⟨_,bV _ rfl,rfl,rfl⟩,fun b u=>?_,q⟩
 have e:b=c.heap.objs.size:=by simpa using u
 subst e
 exact f.fpOk (aO _) (f.hok.fresh (aO _))
def G2b{s:Shared}{R:It ->Hp ->Prop}{lo a:Int}{tk:Nat}(I:Inv X c f H s)(k: -(2^62)<=lo)(j:lo<2^62)(i: -(2^62)<=a)(h:a<2^62)(q:R (Itr lo (a-lo).toNat) H):wpAny (model X.prog X.w) X.A (pyIter (.ref s.heap.objs.size)) (PIE X c f tg R) E {s with heap:=s.heap.push {cls:= .type "range",data:= .fields #[.int lo t,.int a u,.int 1 v]},toks:=tk}:=by
 refine wpAny_pyIter_range (IsRange.new ..) (small_one k j i h) ?_
 have d:Inv X c f H {s with heap:=s.heap.push {cls:= .type "range",data:= .fields #[.int lo t,.int a u,.int 1 v]},toks:=tk}:=I.kept fun b o e=>aF _ e
 refine⟨(s.heap.push {cls:= .type "range",data:= .fields #[.int lo t,.int a u,.int 1 v]}).objs.size,[(s.heap.push {cls:= .type "range",data:= .fields #[.int lo t,.int a u,.int 1 v]}).objs.size],_,_,H,rfl,
   d.kept (t':=tk) fun b o e=>aF _ e,D0m _ lo (a-lo).toNat,?_,fun b g=>?_,q⟩
 . have m:lo+((0:Nat):Int)*1=lo:=by simp
   have l:(((a-lo).toNat:Nat):Int)- ((0:Nat):Int)=Builtin.Range.rangeSize lo a 1:=by rw[rangeSize_one];split<;>lia
   show IsRangeIter _ _ (lo+((0:Nat):Int)*1) ((((a-lo).toNat:Nat):Int)- ((0:Nat):Int)) 1
   rw[m,l]
   exact bV _ rfl
 have e:b=(s.heap.push {cls:= .type "range",data:= .fields #[.int lo t,.int a u,.int 1 v]}).objs.size:=by simpa using g
 subst e
 exact d.fpOk (aO _) (d.hok.fresh (aO _))
inductive J5y(R:It ->Hp ->Prop)(vs:List V)(a:Hp):Prop
 |mk(j:Int)(_:vs=[.int j])(_: -(2^62)<=j)(_:j<2^62)(_:R (Itr 0 j.toNat) a)
def U6k(b:TA):TI:=fun a H R=>b a H fun vs c=>J5y R vs c
def B4e(o:Gl X "range")(n:X.mg "range"=none)(u:PA X [a] g)(m:starEach [a] X.env=[(false,eval a X.env)]:=by rfl):PI X tg (.Call (.Name "range" p) [a] [] pos) (U6k g):=by
 intro b s f H R I h
 refine Call_ (B8r I o n boot_range (gJ (thn (u pos b s f H _ I h) fun us w d=>?_) m rfl))
 obtain⟨vs,x,v,k,c⟩:=d
 obtain⟨j,e,c,l,q⟩:=c
 subst e
 cases k with
 | cons r i=>
   cases i
   obtain⟨t,rfl⟩:=r
   exact call_range_1 (G2b v (by lia) (by lia) c l (by simpa using q))
def V1z(f:TI)(g:TG)(h:TS):TS:=fun D a H=>f a H fun J k=>∃W:Nat ->Nat ->St ->Hp ->Prop,(∃m,W 0 m a k)/\∀i m a H,W i m a H ->
 (J.stop i H/\D.nx a H)\/(J.go i H/\∃N:St ->Hp ->Prop,(∀b c,N b c ->∃e,e<m/\W (i+1) e b c)/\∀x c,J.yld i H x c ->g x a c fun d j=>h {D with nx:=N,ct:=N,bk:=D.nx} d j)
def A5v(a:List Addr)(h:Heap):List (Addr×Obj):=a.filterMap fun b=>(h.get? b).map fun o=>(b,o)
def A6p{h:Heap}(a:b∈c)(e:h.get? b=some o):(b,o)∈A5v c h:=List.mem_filterMap.mpr ⟨b,a,by rw[e];rfl⟩
def D6x{h:Heap}(a:p∈A5v d h):p.1∈d/\h.get? p.1=some p.2:=by
 obtain⟨b,c,e⟩:=List.mem_filterMap.mp a
 cases q:h.get? b with
 |none=>rw[q] at e;cases e
 | some o=>
   rw[q] at e
   have f:(b,o)=p:=bF e
   subst f
   exact⟨c,q⟩
def Inv.pinned{s:Shared}(I:Inv X a h H s)(j:∀b∈f,B5w X a H b)(ho:∀b∈f,∃o,s.heap.get? b=some o/\∀v,o.data≠ .cell v):Inv X (a++A5v f s.heap) h H s:=
 I.pins_of fun p i=>(bO.mp i).elim (fun z=>I.pin p (bJ _ z)) fun z=>by
   obtain⟨c,e⟩:=D6x z
   obtain⟨m,l,k,_⟩:=j p.1 c
   obtain⟨o,g,d⟩:=ho p.1 c
   rw[e] at g;cases g
   exact⟨e,m,l,k,d⟩
def Inv.unpinned(I:Inv X (a++pl) b H s):Inv X a b H s:=I.pins_of fun p c=>I.pin p (bJ _ (aZ _ c))
def B7f(L:PassesOwn (model X.prog X.w) X.A X.env X.xe)(hc:X.calm=true)(hi:PI X tg z wi)(hg:PG X tg g)(p:PSs X P tb)(hs:∀x,foldedSetIterable z X.env x=pure x:=by intro _;rfl):PS X (.For tg z P [] pos) (V1z wi g tb):=by
 intro c s σ H D I h
 refine wpAny_For (thn (hi c s σ H _ I h) fun v s1 h1=>thn h1 fun xw s2 h2=>?_) hs
 obtain⟨it,O,tn,J,H2,e,I2,T,U,f2,W,⟨m0,w0⟩,C⟩:=h2
 subst e
 have l:∀{w:Hp},(∀b∈O,w b=none) ->∀b∈O,B5w X c w b:=fun hn b p=>⟨hn b p,(f2 b p).2⟩
 refine codeAny_forLoop_any (fun n s'=>∃i k w,Inv X c k w s'/\tn i s'.heap/\(∀b∈O,w b=none)/\W i n k w) ?_ m0 ⟨0,σ,H2,I2,U,fun b p=>(f2 b p).1,w0⟩
 rintro n s3 ⟨i,j,Q,I3,F,M,w3⟩
 rcases C i n j Q w3 with⟨E,qn⟩|⟨go,N,hN,step⟩
 . refine fE L (thn (T.done X rfl rfl rfl hc i c s3 j Q X.xe I3 (l M) F E) fun r s4 ⟨Z,I4⟩=>?_)
   subst Z
   exact gG ⟨j,Q,I4,qn⟩
 refine fE L (thn (T.item X rfl rfl rfl hc i c s3 j Q X.xe I3 (l M) F go) fun r s4 ⟨u,Z,h4⟩=>?_)
 subst Z
 refine fE L (thn h4 fun _ s5 B=>?_)
 obtain⟨x,H5,I5,r5,y5,A,xu⟩:=B
 have xv:=I5.pinned (l xu) (T.obj _ _ A)
 refine fE L (thn (hg _ s5 j H5 x u _ xv r5 (step x H5 y5)) fun _ s6 B=>?_)
 obtain⟨R,H6,I6,q6⟩:=B
 refine fE L (thn (p _ s6 R H6 _ I6 q6) fun f Y y=>?_)
 have again:∀{a:St} {t:Hp},Inv X (c++A5v O s5.heap) a t Y ->N a t ->∃m,m<n/\∃i k w,Inv X c k w Y/\tn i Y.heap/\(∀b∈O,w b=none)/\W i m k w:=fun{a t} q G=>by
   obtain⟨m',hm,w7⟩:=hN a t G
   refine⟨m',hm,i+1,a,t,q.unpinned,T.keep _ _ _ A fun b p o e=>(q.pin (b,o) (bJ _ (bJ _ (A6p p e)))).1,fun b p=>?_,w7⟩
   obtain⟨o,e,d⟩:=T.obj _ _ A b p
   exact(q.pin (b,o) (bJ _ (bJ _ (A6p p e)))).2.1
 cases f with
 |next=>obtain⟨a,t,q,G⟩:=y;exact again q G
 |cont=>obtain⟨a,t,q,G⟩:=y;exact again q G
 |brk=>obtain⟨a,t,q,y⟩:=y;exact⟨a,t,q.unpinned,y⟩
 |ret v=>obtain⟨x7,a,t,q,r7,y⟩:=y;exact⟨x7,a,t,q.unpinned,r7,y⟩
end
def A8h{K:PySem.W.Frag}{a:Addr}{xs:List V}{g:TG}{l:TS}{D:B0h}{b:St}{H:Hp}(c:Nat ->St ->Hp ->Prop)(v:c 0 b H)(s:∀i b H,i<=xs.length ->c i b H ->SqL K H a xs)(r:∀i x b H,xs[i]?=some x ->c i b H ->g x b H fun d k=>l {D with nx:=c (i+1),ct:=c (i+1),bk:=D.nx} d k)(u:∀b H,c xs.length b H ->D.nx b H):
   ∃ W:Nat ->Nat ->St ->Hp ->Prop,(∃m,W 0 m b H)/\∀i m b H,W i m b H ->
     ((Itl K a).stop i H/\D.nx b H)\/((Itl K a).go i H/\∃N:St ->Hp ->Prop,(∀f h,N f h ->∃n,n<m/\W (i+1) n f h)/\∀x h,(Itl K a).yld i H x h ->g x b h fun d k=>l {D with nx:=N,ct:=N,bk:=D.nx} d k):=by
 refine⟨fun i m b H=>m=xs.length-i/\i<=xs.length/\c i b H,⟨xs.length,by simp,bP _,v⟩,?_⟩
 rintro i m b H ⟨rfl,t,p⟩
 have q:=s i b H t p
 by_cases j:i<xs.length
 . refine .inr ⟨⟨xs,xs[i],q,by simp[j]⟩,c (i+1),fun f h o=>⟨xs.length-(i+1),by lia,rfl,j,o⟩,fun x h y=>?_⟩
   obtain⟨e,y⟩:=y
   subst e
   exact r i x b _ (y xs q) p
 have e:i=xs.length:=by lia
 subst e
 exact .inl ⟨⟨xs,q,aO _⟩,u b H p⟩
def D8e{lo:Int}{n:Nat}{g:TG}{k:TS}{D:B0h}{a:St}{H:Hp}(f:Nat ->St ->Hp ->Prop)(s:f 0 a H)(q:∀i a H,i<n ->f i a H ->g (.int (lo+i)) a H fun b j=>k {D with nx:=f (i+1),ct:=f (i+1),bk:=D.nx} b j)(r:∀a H,f n a H ->D.nx a H):
   ∃ W:Nat ->Nat ->St ->Hp ->Prop,(∃m,W 0 m a H)/\∀i m a H,W i m a H ->
     ((Itr lo n).stop i H/\D.nx a H)\/((Itr lo n).go i H/\∃N:St ->Hp ->Prop,(∀c h,N c h ->∃l,l<m/\W (i+1) l c h)/\∀x h,(Itr lo n).yld i H x h ->g x a h fun b j=>k {D with nx:=N,ct:=N,bk:=D.nx} b j):=by
 refine⟨fun i m a H=>m=n-i/\i<=n/\f i a H,⟨n,by simp,bP _,s⟩,?_⟩
 rintro i m a H ⟨rfl,t,p⟩
 by_cases d:i<n
 . refine .inr ⟨d,f (i+1),fun c h o=>⟨n-(i+1),by lia,rfl,d,o⟩,fun x h y=>?_⟩
   obtain⟨e,y⟩:=y
   subst e y
   exact q i a _ d p
 have e:i=n:=by lia
 subst e
 exact .inl ⟨aO _,r a H p⟩
def B3b{c:TT}{D:B0h}(h:St ->Hp ->Prop)(g:St ->Hp ->Nat)(o:h a H)(n:∀a H,h a H ->c a H fun b e=>if b=true then j {D with nx:=fun d f=>h d f/\g d f<g a H,ct:=fun d f=>h d f/\g d f<g a H,bk:=D.nx} a e else D.nx a e)(mono:∀a H Q i,(∀b e,Q b e ->i b e) ->c a H Q ->c a H i):G5p c j D a H:=by
 refine⟨fun m a H=>m=g a H/\h a H,⟨_,rfl,o⟩,?_⟩
 rintro m a H ⟨rfl,p⟩
 refine mono a H _ _ (fun b e q=>?_) (n a H p)
 cases b with
 |true=>exact⟨_,fun d f ⟨k,l⟩=>⟨_,l,rfl,k⟩,q⟩
 |false=>exact q
abbrev R2:=V ->V ->Hp ->VK ->Prop
def OpR(X:Cx)(f:Value ->Value ->Sem Value)(r:R2):Prop:=
 ∀ (a:List (Addr×Obj)) (s:Shared) (b:St) (H:Hp) (x y:V) (v u:Value) (Q:VK),Inv X a b H s ->Y3 x v ->Y3 y u ->r x y H Q ->
   wpAny (model X.prog X.w) X.A (f v u) (EP X a b Q) X.xe s
def UnR(X:Cx)(f:Value ->Sem Value)(r:V ->Hp ->VK ->Prop):Prop:=
 ∀ (a:List (Addr×Obj)) (s:Shared) (b:St) (H:Hp) (x:V) (v:Value) (Q:VK),Inv X a b H s ->Y3 x v ->r x H Q ->
   wpAny (model X.prog X.w) X.A (f v) (EP X a b Q) X.xe s
def A6j(X:Cx)(f:Value)(r:List V ->Hp ->VK ->Prop):Prop:=
 ∀ (a:List (Addr×Obj)) (s:Shared) (b:St) (H:Hp) (xs:List V) (us:List Value) (Q:VK),Inv X a b H s ->U7 xs us ->r xs H Q ->
   wpAny (model X.prog X.w) X.A (call f us) (EP X a b Q) X.xe s
def tOp(r:R2)(c b:TE):TE:=fun a H Q=>c a H fun x e=>b a e fun y d=>r x y d Q
def tUn(r:V ->Hp ->VK ->Prop)(b:TE):TE:=fun a H Q=>b a H fun x c=>r x c Q
def rI(C:Int ->Int ->Prop)(g:Int ->Int ->V):R2:=fun x y H Q=>vI x fun i=>vI y fun j=>C i j/\Q (g i j) H
def rI0(g:Int ->Int ->V):R2:=fun x y H Q=>vI x fun i=>vJ y fun j=>Q (g i j) H
def rU(g:Int ->V):V ->Hp ->VK ->Prop:=fun x H Q=>vJ x fun i=>Q (g i) H
section
variable{X:Cx}{a b c:Expr}{ta tb tc:TE}{pos:Pos}
def J8d(w:PE X a ta)(t:PE X b tb){R:V ->V ->Hp ->Prop}(I:Inv X d i H s)(h:ta i H fun x l=>tb i l fun y g=>R x y g){f:Value ->Value ->Sem Value}(r:∀v u s2 x y g,Inv X d i g s2 ->Y3 x v ->Y3 y u ->R x y g ->wpAny (model X.prog X.w) X.A (f v u) Q X.xe s2):
   wpAny (model X.prog X.w) X.A (eval a X.env) (fun v k=>wpAny (model X.prog X.w) X.A (eval b X.env) (fun u j=>wpAny (model X.prog X.w) X.A (f v u) Q X.xe j) X.xe k) X.xe s:=by
 refine thn (w d s i H _ I h) fun v m e=>?_
 obtain⟨x,l,A,o,q⟩:=e
 refine thn (t d m i l _ A q) fun u s2 e=>?_
 obtain⟨y,g,z,n,p⟩:=e
 exact r v u s2 x y g z o n p
def D0(ho:OpR X (binaryOp i) r)(k:PE X a ta)(j:PE X b tb):PE X (.BinOp a i b pos) (tOp r ta tb):=by
 intro d s e H Q I h
 exact wpAny_BinOp (J8d k j I h fun v u s2 x y m l g f q=>ho d s2 e m x y v u Q l g f q)
def A5c(ho:UnR X (unaryOp j) r)(k:PE X a ta):PE X (.UnaryOp j a pos) (tUn r ta):=by
 intro d s e H Q I h
 exact UnaryOp_ (thn (k d s e H _ I h) fun v f ⟨x,m,l,g,i⟩=>ho d f e m x v Q l g i)
def opI{f:Value ->Value ->Sem Value}{C:Int ->Int ->Prop}{g:Int ->Int ->Int}(rule:∀(i j:Int) (t u:Tok) (s:Shared) (Q:Value ->Shared ->Prop) (E:Value ->Shared ->Prop),C i j ->Q (.int (g i j) s.toks) {s with toks:=s.toks+1} ->wpAny (model X.prog X.w) X.A (f (.int i t) (.int j u)) Q E s):
   OpR X f (rI C fun i j=> .int (g i j)):=by
 intro d s n H x y v u Q I k e h
 obtain⟨i,rfl,m⟩:=C7p h
 obtain⟨j,rfl,l,q⟩:=C7p m
 obtain⟨t,rfl⟩:=k
 obtain⟨t',rfl⟩:=e
 exact rule i j t t' s _ _ l ⟨.int (g i j),H,I.tok _,⟨_,rfl⟩,q⟩
def U7y{f:Value ->Value ->Sem Value}{g:Int ->Int ->Int}(rule:∀(i j:Int) (t u:Tok) (s:Shared) (Q:Value ->Shared ->Prop) (E:Value ->Shared ->Prop),Q (.int (g i j) s.toks) {s with toks:=s.toks+1} ->wpAny (model X.prog X.w) X.A (f (.int i t) (.int j u)) Q E s):
   OpR X f (rI0 fun i j=> .int (g i j)):=by
 intro d s m H x y v u Q I k e h
 obtain⟨i,rfl,l⟩:=C7p h
 obtain⟨j,rfl,q⟩:=D3p l
 obtain⟨t,rfl⟩:=k
 obtain⟨t',rfl⟩:=e
 exact rule i j t t' s _ _ ⟨.int (g i j),H,I.tok _,⟨_,rfl⟩,q⟩
def J5c{f:Value ->Value ->Sem Value}{g:Int ->Int ->Bool}(rule:∀(i j:Int) (t u:Tok) (s:Shared) (Q:Value ->Shared ->Prop) (E:Value ->Shared ->Prop),Q (.bool (g i j)) s ->wpAny (model X.prog X.w) X.A (f (.int i t) (.int j u)) Q E s):
   OpR X f (rI0 fun i j=> .bl (g i j)):=by
 intro d s m H x y v u Q I k e h
 obtain⟨i,rfl,l⟩:=C7p h
 obtain⟨j,rfl,q⟩:=D3p l
 obtain⟨t,rfl⟩:=k
 obtain⟨t',rfl⟩:=e
 exact rule i j t t' s _ _ ⟨.bl (g i j),H,I,rfl,q⟩
def U0s(i j:Int):Prop:=0<=j/\j<=1000000/\i.natAbs<2^64
def B1b(i j:Int):Prop:=(-(2^64)<i/\i<2^64)\/(-(2^64)<j/\j<2^64)
def B1b.ok{i j:Int}(h:B1b i j):IntMulOk i j:=by
 rcases h with⟨e,d⟩|⟨e,d⟩
 . exact .of_left (intBits_le_64 e d)
 exact .of_right (intBits_le_64 e d)
def C9n(k:Nat):(0:Int)<=2^k:=by
 rw[two_pow_cast]
 exact Int.natCast_nonneg _
def V8:OpR X (binaryOp .Add) (rI0 fun i j=> .int (i+j)):=U7y fun _ _ _ _ _ _ _ q=>add_int q
def Y4:OpR X (binaryOp .Sub) (rI0 fun i j=> .int (i-j)):=U7y fun _ _ _ _ _ _ _ q=>sub_int q
def Y2:OpR X (binaryOp .Mod) (rI (fun _ j=>0<j) fun i j=> .int (i % j)):=opI fun i j _ _ _ _ _ d q=>by
 have e:(0:Int)<j:=d
 exact mod_int' (by lia) (by rw[Int.fmod_eq_emod_of_nonneg i (by lia)];exact q)
def G0t:OpR X (binaryOp .Pow) (rI U0s fun i j=> .int (i^j.toNat)):=opI fun _ _ _ _ _ _ _ d q=>pow_int_small d.1 d.2.1 d.2.2 q
def J8g:OpR X (binaryOp .RShift) (rI (fun _ j=>0<=j) fun i j=> .int (i/2^j.toNat)):=opI fun i j _ _ _ _ _ d q=>
 rshift_int d (by rw[jL i (C9n _)];exact q)
def unI{f:Value ->Sem Value}{g:Int ->Int}(rule:∀(i:Int) (t:Tok) (s:Shared) (Q:Value ->Shared ->Prop) (E:Value ->Shared ->Prop),Q (.int (g i) s.toks) {s with toks:=s.toks+1} ->wpAny (model X.prog X.w) X.A (f (.int i t)) Q E s):
   UnR X f (rU fun i=> .int (g i)):=by
 intro d s j H x v Q I e h
 obtain⟨i,rfl,q⟩:=D3p h
 obtain⟨t,rfl⟩:=e
 exact rule i t s _ _ ⟨.int (g i),H,I.tok _,⟨_,rfl⟩,q⟩
def A2k:UnR X (unaryOp .USub) (rU fun i=> .int (-i)):=unI fun _ _ _ _ _ q=>neg_int q
end
def U6x:V ->V ->Bool
 | .non,.non=>true| .non,.int _=>true| .int _,.non=>true| .non,.bl _=>true| .bl _,.non=>true| .non,.str _=>true| .str _,.non=>true
 | .int _,.int _=>true| .bl _,.bl _=>true| .str _,.str _=>true| .byt _,.byt _=>true
 | .int _,.str _=>true| .str _,.int _=>true| .bl _,.str _=>true| .str _,.bl _=>true
 |_,_=>false
def rEq:R2:=fun x y H Q=>U6x x y=true/\Q (.bl (decide (x=y))) H
def rNe:R2:=fun x y H Q=>U6x x y=true/\Q (.bl (!decide (x=y))) H
def D4h{i j:Int}:decide (V.int i=V.int j)=(i==j):=by
 rw[iD]
 simp
def G4f{i j:Bool}:decide (V.bl i=V.bl j)=(i==j):=by
 rw[iD]
 simp
def dec_str:decide (V.str i=V.str j)=(i==j):=by
 rw[iD]
 simp
def D2w{i j:Array UInt8}:decide (V.byt i=V.byt j)=(i.toList==j.toList):=by
 rw[iD]
 cases i
 cases j
 simp
section
variable{X:Cx}{a b c:Expr}{ta tb tc:TE}{pos:Pos}
def Y1{Q:VK}{k f:Bool}(I:Inv X d g H s)(q:Q (.bl k) H)(e:k=f):EP X d g Q (.bool f) s:=by
 subst e
 exact⟨.bl k,H,I,rfl,q⟩
def D5:OpR X (compareOp .Eq) rEq:=by
 intro g s k H x y v u Q I f d h
 obtain⟨e,q⟩:=h
 cases x with
 | non=>
   cases f
   cases y with
   |non=>cases d;exact EqNone.eq_none_none (Y1 I q (by simp))
   |bl j=>cases d;exact EqNone.eq_none_bool (Y1 I q (by simp))
   |int j=>obtain⟨t',rfl⟩:=d;exact EqNone.eq_none_int (Y1 I q (by simp))
   |str j=>obtain⟨t',rfl⟩:=d;exact EqNone.eq_none_str (Y1 I q (by simp))
   |_=>exact absurd (show false=true from e) aB
 | bl i=>
   cases f
   cases y with
   |non=>cases d;exact EqNone.eq_bool_none (Y1 I q (by simp))
   |bl j=>cases d;exact eq_bool (Y1 I q G4f)
   |str j=>obtain⟨t',rfl⟩:=d;exact EqMixed.eq_bool_str (Y1 I q (by simp))
   |_=>exact absurd (show false=true from e) aB
 | int i=>
   obtain⟨t,rfl⟩:=f
   cases y with
   |non=>cases d;exact EqNone.eq_int_none (Y1 I q (by simp))
   |int j=>obtain⟨t',rfl⟩:=d;exact eq_int (Y1 I q D4h)
   |str j=>obtain⟨t',rfl⟩:=d;exact EqMixed.eq_int_str (Y1 I q (by simp))
   |_=>exact absurd (show false=true from e) aB
 | str i=>
   obtain⟨t,rfl⟩:=f
   cases y with
   |non=>cases d;exact EqNone.eq_str_none (Y1 I q (by simp))
   |bl j=>cases d;exact EqMixed.eq_str_bool (Y1 I q (by simp))
   |int j=>obtain⟨t',rfl⟩:=d;exact EqMixed.eq_str_int (Y1 I q (by simp))
   |str j=>obtain⟨t',rfl⟩:=d;exact eq_str (Y1 I q dec_str)
   |_=>exact absurd (show false=true from e) aB
 | byt i=>
   obtain⟨t,rfl⟩:=f
   cases y with
   |byt j=>obtain⟨t',rfl⟩:=d;exact W.eq_bytes (Y1 I q D2w)
   |_=>exact absurd (show false=true from e) aB
 |_=>cases y<;>exact absurd (show false=true from e) aB
def A5b:OpR X (compareOp .NotEq) rNe:=by
 intro g s k H x y v u Q I f d h
 obtain⟨e,q⟩:=h
 cases x with
 | non=>
   cases f
   cases y with
   |non=>cases d;exact EqNone.ne_none_none (Y1 I q (by simp))
   |bl j=>cases d;exact EqNone.ne_none_bool (Y1 I q (by simp))
   |int j=>obtain⟨t',rfl⟩:=d;exact EqNone.ne_none_int (Y1 I q (by simp))
   |str j=>obtain⟨t',rfl⟩:=d;exact EqNone.ne_none_str (Y1 I q (by simp))
   |_=>exact absurd (show false=true from e) aB
 | bl i=>
   cases f
   cases y with
   |non=>cases d;exact EqNone.ne_bool_none (Y1 I q (by simp))
   |bl j=>cases d;exact ne_bool (Y1 I q (aM not G4f))
   |str j=>obtain⟨t',rfl⟩:=d;exact EqMixed.ne_bool_str (Y1 I q (by simp))
   |_=>exact absurd (show false=true from e) aB
 | int i=>
   obtain⟨t,rfl⟩:=f
   cases y with
   |non=>cases d;exact EqNone.ne_int_none (Y1 I q (by simp))
   |int j=>obtain⟨t',rfl⟩:=d;exact ne_int (Y1 I q (aM not D4h))
   |str j=>obtain⟨t',rfl⟩:=d;exact EqMixed.ne_int_str (Y1 I q (by simp))
   |_=>exact absurd (show false=true from e) aB
 | str i=>
   obtain⟨t,rfl⟩:=f
   cases y with
   |non=>cases d;exact EqNone.ne_str_none (Y1 I q (by simp))
   |bl j=>cases d;exact EqMixed.ne_str_bool (Y1 I q (by simp))
   |int j=>obtain⟨t',rfl⟩:=d;exact EqMixed.ne_str_int (Y1 I q (by simp))
   |str j=>obtain⟨t',rfl⟩:=d;exact ne_str (Y1 I q (aM not dec_str))
   |_=>exact absurd (show false=true from e) aB
 | byt i=>
   obtain⟨t,rfl⟩:=f
   cases y with
   |byt j=>obtain⟨t',rfl⟩:=d;exact W.ne_bytes (Y1 I q (aM not D2w))
   |_=>exact absurd (show false=true from e) aB
 |_=>cases y<;>exact absurd (show false=true from e) aB
def B0k:OpR X (compareOp .Lt) (rI0 fun i j=> .bl (decide (i<j))):=J5c fun _ _ _ _ _ _ _ q=>lt_int q
def D3k:OpR X (compareOp .LtE) (rI0 fun i j=> .bl (decide (i<=j))):=J5c fun _ _ _ _ _ _ _ q=>le_int q
def A5n:OpR X (compareOp .Gt) (rI0 fun i j=> .bl (decide (j<i))):=J5c fun _ _ _ _ _ _ _ q=>gt_int q
def B1s:OpR X (compareOp .GtE) (rI0 fun i j=> .bl (decide (j<=i))):=J5c fun _ _ _ _ _ _ _ q=>ge_int q
def B4k:OpR X (compareOp .Is) (fun x y H Q=>y= .non/\Q (.bl (decide (x= .non))) H):=by
 intro e s g H x y v u Q I d f h
 obtain⟨rfl,q⟩:=h
 cases f
 refine is_none_gen (Y1 I q ?_)
 cases x<;>first
   |(cases d;rfl)
   |(obtain⟨t,rfl⟩:=d;rfl)
def B8{b:Expr}(h:d≠ .In:=by decide)(e:d≠ .NotIn:=by decide):behindInMarks d b=false:=by
 have g:(d==CmpOp.In)=false:=by cases d<;>first|rfl|exact absurd rfl h
 have f:(d==CmpOp.NotIn)=false:=by cases d<;>first|rfl|exact absurd rfl e
 cases b<;>simp[behindInMarks,g,f]
def V6(ho:OpR X (compareOp e) r)(l:PE X a ta)(k:PE X b tb)(j:behindInMarks e b=false):PE X (.Compare a [e] [b] pos) (tOp r ta tb):=by
 intro d s f H Q I h
 exact wpAny_Compare1 (J8d l k I h fun v u s2 x y n m i g q=>ho d s2 f n x y v u Q m i g q) j
inductive J6b(Q:Bool ->Hp ->Prop)(x:V)(d:Hp):Prop
 |mk{k}(_:x= .bl k)(_:Q k d)
def U7m(t:TE):TT:=fun d H Q=>t d H fun x e=>J6b Q x e
def B5(ho:OpR X (compareOp g) r)(t:PE X a ta)(q:PE X b tb)(p:behindInMarks g b=false):PT X (.Compare a [g] [b] pos) (U7m (tOp r ta tb)):=by
 intro d s e H Q I h
 refine wpAny_isTrue_Compare1 (thn (t d s e H _ I h) fun v i ⟨x,E,B,m,o⟩=>thn (q d i e E _ B o) fun u s2 ⟨y,D,A,l,n⟩=>
   thn (ho d s2 e D x y v u _ A m l n) fun c F ⟨z,C,w,j,f⟩=>?_) p
 obtain @⟨k,rfl,f⟩:=f
 cases j
 exact fH ⟨C,w,f⟩
def B4a:(sizeLine:Nat)<2^63:=by rw[sizeLine_eq];decide
def V1:OpR X (binaryOp .Add) (fun x y H Q=>∃i j,x= .str i/\y= .str j/\i.length+j.length<=sizeLine/\Q (.str (i++j)) H):=by
 intro d s k H x y v u Q I f e h
 obtain⟨i,j,rfl,rfl,g,q⟩:=h
 obtain⟨t,rfl⟩:=f
 obtain⟨t',rfl⟩:=e
 exact add_str (fun t' tk=>⟨.str (i++j),H,I.tok _,⟨_,rfl⟩,q⟩) g
def B5f(r:U7 [x] us):∃u,us=[u]/\Y3 x u:=by
 cases r with
 |cons e d=>cases d;exact⟨_,rfl,e⟩
def D9j(r:U7 [x,y] us):∃u d,us=[u,d]/\Y3 x u/\Y3 y d:=by
 cases r with
 | cons h g=>
   cases g with
   |cons f e=>cases e;exact⟨_,_,rfl,h,f⟩
def A4x:A6j X (.builtin "abs") (fun xs H Q=>∃i,xs=[.int i]/\Q (.int (if i<0 then -i else i)) H):=by
 intro d s e H xs us Q I r h
 obtain⟨i,rfl,q⟩:=h
 obtain⟨u,rfl,t,rfl⟩:=B5f r
 exact call_abs_int fun u tk=>⟨.int (if i<0 then -i else i),H,I.tok _,⟨_,rfl⟩,q⟩
def A2r(f:X.calm=true):A6j X (.builtin "max") (fun xs H Q=>∃i j,xs=[.int i,.int j]/\Q (.int (if j>i then j else i)) H):=by
 intro e s g H xs us Q I r h
 obtain⟨i,j,rfl,q⟩:=h
 obtain⟨u,l,rfl,⟨t,rfl⟩,⟨t',rfl⟩⟩:=D9j r
 refine max_two_ints (I.ok.hd f) fun h' tk k=>⟨_,H,I.kept k,?_,q⟩
 by_cases d:j>i
 . rw[aC d,aC d];exact⟨_,rfl⟩
 rw[aA d,aA d];exact⟨_,rfl⟩
def A4r(f:X.calm=true):A6j X (.builtin "min") (fun xs H Q=>∃i j,xs=[.int i,.int j]/\Q (.int (if j<i then j else i)) H):=by
 intro e s g H xs us Q I r h
 obtain⟨i,j,rfl,q⟩:=h
 obtain⟨u,l,rfl,⟨t,rfl⟩,⟨t',rfl⟩⟩:=D9j r
 refine min_two_ints (I.ok.hd f) fun h' tk k=>⟨_,H,I.kept k,?_,q⟩
 by_cases d:j<i
 . rw[aC d,aC d];exact⟨_,rfl⟩
 rw[aA d,aA d];exact⟨_,rfl⟩
def D7d:A6j X (.type "int") (fun xs H Q=>(∃i,xs=[.int i]/\Q (.int i) H)\/∃k,xs=[.bl k]/\Q (.int (if k then 1 else 0)) H):=by
 intro d s f H xs us Q I r h
 rcases h with⟨i,rfl,q⟩|⟨k,rfl,q⟩
 . obtain⟨u,rfl,t,rfl⟩:=B5f r
   exact call_int_int ⟨.int i,H,I,⟨_,rfl⟩,q⟩
 obtain⟨u,rfl,e⟩:=B5f r
 cases e
 exact call_int_bool ⟨.int (if k then 1 else 0),H,I.tok _,⟨_,rfl⟩,q⟩
def Z6:A6j X (.type "str") (fun xs H Q=>∃i,xs=[.int i]/\i.natAbs.log2<1920/\Q (.str (toString i)) H):=by
 intro d s f H xs us Q I r h
 obtain⟨i,rfl,e,q⟩:=h
 obtain⟨u,rfl,t,rfl⟩:=B5f r
 exact PySem.P.str_of_int e ⟨.str _,H,I.tok _,⟨_,rfl⟩,q⟩
end
structure D2a(h:Heap)(x dx C:Addr)(mA:Str ->Option Value):Prop where
 obj:h.get? x=some (W.instObj C dx)
 ns:h.Ns1 dx mA
 ne:dx≠x
def B3x{h:Heap}{d:Str ->Option Value}(n:h.Ns1 l d):∃c,h.get? l=some c/\∀name,W.lookIn name c=some (d name):=by
 obtain⟨o,f,m,ho,k,j,_,i⟩:=n
 refine⟨o,ho,fun name=>?_⟩
 have e:=i name
 unfold nsFind findBy at e
 rw[<-Array.find?_toList] at e
 unfold W.lookIn
 rw[k]
 dsimp only
 split
 . rename_i y q
   rw[q] at e
   exact aM some e
 rename_i q
 rw[q] at e
 have a:f.toList.any (·.refKey)=false:=by
   rw[List.any_eq_false]
   intro y g
   obtain⟨z,t,b⟩:=j y (gS.mp g)
   simp[DictEntry.refKey,b]
 have a':¬f.toList.any (·.refKey)=true:=by rw[a];exact aB
 rw[aA a']
 exact aM some e
def D2a.look{b:Str ->Option Value}(I:D2a h x d C b):∃a,W.InstAt h x (W.instObj C d) C (some a)/\∀name,W.lookIn name a=some (b name):=
 let⟨a,ho,c⟩:=B3x I.ns
 ⟨a,⟨I.obj,rfl,rfl,ho⟩,c⟩
section
variable{prog:Program}{w:World}{A:Around}{E:Value ->Shared ->Prop}{s:Shared}{K:PySem.W.Frag}{x dx C f:Addr}{mA:Str ->Option Value}{name:Str}{v:Value}
def J3r{a:Bool}{Q:Value ->Shared ->Prop}(X:K.In s.heap)(I:D2a s.heap x dx C mA)(e:W.plainGet K C name=true)(hh:W.hasDictIn K C=true)(g:W.findIn K (.ref C) name=some none)(c:mA name=some v)(b:W.handedIn v=true)(h:Q v {s with toks:=s.toks+1}):
   wpAny (model prog w) A (getAttr (.ref x) name a) Q E s:=by
 obtain⟨i,J,d⟩:=I.look
 exact W.get_value X J (W.plainGet_of e).1 (W.findObj_own hh g rfl (by rw[d,c])) b h
def G1g{Q:Value×List Value ->Shared ->Prop}(X:K.In s.heap)(I:D2a s.heap x dx C mA)(a:W.plainGet K C name=true)(g:W.findIn K (.ref C) name=some (some (.ref f)))(d:W.isFn K (.ref f)=true)(c:mA name=none)(h:Q (.ref f,[.ref x]) s):
   wpAny (model prog w) A (getMethod (.ref x) name pl) Q E s:=by
 obtain⟨b,J,e⟩:=I.look
 exact W.method_fn X J (W.plainGet_of a).1 (W.plainGet_of a).2 g (gD.mp d) (by show(W.lookIn name b).map (·.isSome)=some false;rw[e,c];rfl) h
def J2s{ns:List Str}{Q:Unit ->Shared ->Prop}(X:K.In s.heap)(I:D2a s.heap x dx C mA)(o:W.findIn K (.ref C) "__setattr__"=some (some (.builtin "object.__setattr__")))(p:W.plainOver K C=true)(m:W.takerIn K C name=some none)(hh:W.hasDictIn K C=true)(l:PySem.Within mA ns)(n:ns.length<=sizeLine)(h:∀h',D2a h' x dx C (fun y=>if y=name then some v else mA y) ->Heap.SameBut dx s.heap h' ->Q () {s with heap:=h',toks:=s.toks+2}):
   wpAny (model prog w) A (setAttr (.ref x) name v) Q E s:=by
 obtain⟨z,J,D⟩:=I.look
 refine W.set_plain X J o (W.osa_open (s:={s with toks:=s.toks+1}) (r:=none) X J p m fun b=>?_)
 obtain⟨F,q,i⟩:=W.any_some hh
 have k:s.heap.get? x=some ⟨.ref C,some dx,.plain, #[]⟩:=I.obj
 refine aE (aR (aE (aE (wpAny_loadPart k (aE (W.Looks.here (s:={s with toks:=s.toks+1}) (W.looks_clsIn X q) ?_))))))
 rw[i]
 refine aR (a:=some dx) (aE (aR (aE ?_)))
 refine wpAny_nsSet1 (s:={s with toks:=s.toks+1}) I.ns fun h' d c=>?_
 obtain⟨B,t,u,e,g,j⟩:=d.count (Within.cons name v l)
 refine aE (wpAny_lookBehind e (by rw[g];exact pastItsLine_dict (bS j (by rw[bK];lia))) ?_)
 exact aR (h _ ⟨(c.2 _ (eU I.ne)).trans I.obj,d,I.ne⟩ c)
def C6u(X:K.In s.heap)(b:W.makesIn K C=true)(c:W.findIn K (.ref C) "__init__"=some (some (.ref f)))(e:W.typeIn K (.ref f)=some (.type "function"))(h:codeAny (model prog w) (A.under (.builtin "type.__call__" ⟨.ref C::vs,a⟩)) (.call (.ref f) ⟨.ref (s.heap.objs.size+1)::vs,a⟩) (W.InitBack (s.heap.objs.size+1) R)
     {s with heap:=(s.heap.push W.emptyDict).push (W.instObj C s.heap.objs.size)}):
   codeAny (model prog w) A (.call (.ref C) ⟨vs,a⟩) R s:=by
 obtain⟨hh,g,d,t,os⟩:=s
 exact W.make_core (W.makes_of X b) (W.looks_findIn X c) (fun self=>W.bind_fn X self e) (.inl rfl) h
def D6m(X:K.In s.heap)(a:W.makesIn K C=true)(b:W.findIn K (.ref C) "__init__"=some (some (.builtin "object.__init__")))(c:∀self,W.Looks (model prog w) s.heap (bindSpecial (.builtin "object.__init__") self) (.builtin "object.__init__",[self]))(h:codeAny (model prog w) (A.under (.builtin "type.__call__" ⟨[.ref C],[]⟩)) (.call (.builtin "object.__init__") ⟨[.ref (s.heap.objs.size+1)],[]⟩) (W.InitBack (s.heap.objs.size+1) R)
     {s with heap:=(s.heap.push W.emptyDict).push (W.instObj C s.heap.objs.size)}):
   codeAny (model prog w) A (.call (.ref C) ⟨[],[]⟩) R s:=by
 obtain⟨hh,g,d,t,os⟩:=s
 exact W.make_core (W.makes_of X a) (W.looks_findIn X b) c (.inr ⟨rfl,rfl⟩) h
end
def Z9(f:Str)(v:V):List (Str×V) ->List (Str×V)
 | []=>[(f,v)]
 |(g,x)::r=>if g=f then(g,v)::r else(g,x)::Z9 f v r
def U0(f g:Str)(v:V):∀fs:List (Str×V),(Z9 f v fs).lookup g=if g=f then some v else fs.lookup g
 | []=>by
   show List.lookup g [(f,v)]=_
   by_cases h:g=f
   . have a:(g==f)=true:=gD.mpr h
     simp only[List.lookup,a,aC h]
   . have a:(g==f)=false:=cO.mpr h
     simp only[List.lookup,a,aA h]
 | (k, x)::r=>by
   have c:=U0 f g v r
   rw[show Z9 f v ((k,x)::r)=(if k=f then(k,v)::r else(k,x)::Z9 f v r) from rfl]
   by_cases b:k=f
   . rw[aC b]
     by_cases h:g=k
     . have a:(g==k)=true:=gD.mpr h
       simp only[List.lookup,a,aC (h.trans b)]
     . have a:(g==k)=false:=cO.mpr h
       simp only[List.lookup,a,aA (fun e:g=f=>h (e.trans b.symm))]
   . rw[aA b]
     by_cases h:g=k
     . have a:(g==k)=true:=gD.mpr h
       simp only[List.lookup,a,aA (fun e:g=f=>b (h.symm.trans e))]
     . have a:(g==k)=false:=cO.mpr h
       simp only[List.lookup,a]
       exact c
def B3s(f:Str)(v:V):∀fs:List (Str×V),f∈(Z9 f v fs).map (·.1)/\∀g,g∈fs.map (·.1) ->g∈(Z9 f v fs).map (·.1)
 | []=>⟨by simp[Z9],fun g h=>by simp at h⟩
 | (k, x)::r=>by
   obtain⟨c,b⟩:=B3s f v r
   rw[show Z9 f v ((k,x)::r)=(if k=f then(k,v)::r else(k,x)::Z9 f v r) from rfl]
   by_cases a:k=f
   . rw[aC a]
     subst a
     exact⟨by simp,fun g h=>by simpa using h⟩
   . rw[aA a]
     refine⟨?_,fun g h=>?_⟩
     . rw[cX]
       exact aJ _ c
     . rw[cX] at h ⊢
       rcases bM.mp h with e|e
       . exact bM.mpr (.inl e)
       . exact aJ _ (b g e)
def A2q(f:Str)(v:V):∀fs:List (Str×V),(Z9 f v fs).length<=fs.length+1
 | []=>by simp[Z9]
 | (k,x)::r=>by
   have b:=A2q f v r
   rw[show Z9 f v ((k,x)::r)=(if k=f then(k,v)::r else(k,x)::Z9 f v r) from rfl]
   by_cases a:k=f
   . rw[aC a,bK,bK];lia
   . rw[aA a,bK,bK];lia
def A7y.some_of(r:A7y (some v) o):∃u,o=some u/\Y3 v u:=by
 cases o with
 |none=>exact(show False from r).elim
 |some u=>exact⟨u,rfl,r⟩
def A7y.none_of(r:A7y none o):o=none:=by
 cases o with
 |none=>rfl
 |some u=>exact(show False from r).elim
def C0z(r:Y3 v u):W.handedIn u=true:=by
 cases v with
 |non=>cases(show u=Value.none from r);rfl
 |bl b=>cases(show u=Value.bool b from r);rfl
 |int i=>obtain⟨t,e⟩:=(show∃t,u=Value.int i t from r);cases e;rfl
 |str x=>obtain⟨t,e⟩:=(show∃t,u=Value.str x t from r);cases e;rfl
 |byt b=>obtain⟨t,e⟩:=(show∃t,u=Value.bytes b t from r);cases e;rfl
 |flt b=>obtain⟨t,e⟩:=(show∃t,u=Value.float b t from r);cases e;rfl
 |ref a=>cases(show u=Value.ref a from r);rfl
 |ty n=>cases(show u=Value.type n from r);rfl
section
variable{P:Program}{w:World}{H H':Hp}{h h':Heap}{a C dx:Addr}{fs fs':List (Str×V)}
def B6q(c:HOk P w H h)(e:H a=some (.ins C dx fs)):∃b,D2a h a dx C b/\(∀f,A7y (fs.lookup f) (b f))/\PySem.Within b (fs.map (·.1))/\fs.length<=1000/\H dx=some (.own a):=by
 obtain⟨d,z,i,g,b,n,r,q⟩:=(show A1g P w H h a (.ins C dx fs) from c a _ e)
 exact⟨b,⟨g,n,i⟩,r,q,z,d⟩
end
structure Cls(K:W.Frag)(C:Addr):Prop where
 pg:W.plainGet K C Str.empty=true
 hd:W.hasDictIn K C=true
 po:W.plainOver K C=true
 sa:W.findIn K (.ref C) "__setattr__"=some (some (.builtin "object.__setattr__"))
def Cls.get{K:W.Frag}(c:Cls K C)(f:Str):W.plainGet K C f=true:=c.pg
def A0e(K:W.Frag)(C:Addr)(f:Str):Prop:=W.findIn K (.ref C) f=some none
def A0e.taker{K:W.Frag}(n:A0e K C f):W.takerIn K C f=some none:=by
 unfold W.takerIn
 rw[show W.findIn K (.ref C) f=some none from n]
 rfl
structure B3j(K:W.Frag)(C:Addr)(m:Str)(f:Addr):Prop where
 at_:W.findIn K (.ref C) m=some (some (.ref f))
 fn:W.isFn K (.ref f)=true
 kp:W.keepIn K (.ref f)=true
section
variable{X:Cx}{pins:List (Addr×Obj)}{σ:St}{H:Hp}{s:Shared}{a C dx:Addr}{fs:List (Str×V)}{f:Str}{v:V}{A:Around}{E:Value ->Shared ->Prop}
def D0u{b:Bool}{Q:Value ->Shared ->Prop}(I:Inv X pins σ H s)(e:H a=some (.ins C dx fs))(c:Cls X.K C)(n:A0e X.K C f)(l:fs.lookup f=some v)(h:∀u d,Inv X pins σ H d ->Y3 v u ->Q u d):wpAny (model X.prog X.w) A (getAttr (.ref a) f b) Q E s:=by
 obtain⟨i,O,r,_,_,_⟩:=B6q I.hok e
 obtain⟨u,j,g⟩:=A7y.some_of (v:=v) (o:=i f) (by rw[<-l];exact r f)
 exact J3r I.kIn O (c.get f) c.hd n j (C0z g) (h u _ (I.tok _) g)
def B7z{Q:Value×List Value ->Shared ->Prop}(I:Inv X pins σ H s)(e:H a=some (.ins C dx fs))(c:Cls X.K C)(k:B3j X.K C m g)(l:fs.lookup m=none)(h:Q (.ref g,[.ref a]) s):wpAny (model X.prog X.w) A (getMethod (.ref a) m pl) Q E s:=by
 obtain⟨b,O,r,_,_,_⟩:=B6q I.hok e
 have d:b m=none:=A7y.none_of (by rw[<-l];exact r m)
 exact G1g I.kIn O (c.get m) k.at_ k.fn d h
def C8w{Q:Unit ->Shared ->Prop}(I:Inv X pins σ H s)(e:H a=some (.ins C dx fs))(c:Cls X.K C)(n:A0e X.K C f)(F:fs.length<1000)(m:Y3 y u)(h:∀j,Inv X pins σ (upd H a (.ins C dx (Z9 f y fs))) j ->Q () j):wpAny (model X.prog X.w) A (setAttr (.ref a) f u) Q E s:=by
 obtain⟨k,O,r,i,_,ho⟩:=B6q I.hok e
 have p:(fs.map (·.1)).length<=sizeLine:=by rw[aP,sizeLine_eq];lia
 refine J2s I.kIn O c.sa c.po n.taker c.hd i p fun h' d l=>h _ ?_
 have w:∃o,h'.get? dx=some o:=let⟨o,_,_,D,_⟩:=d.ns;⟨o,D⟩
 refine I.write (x:=a) (e:=dx) (by rw[e];exact True.intro) (.inr ho) (fun b q B z=>(l.2 b B).trans z) w ?_
 refine⟨by rw[D8 O.ne];exact ho,?_,O.ne,d.obj,_,d.ns,fun g=>?_,fun g t=>?_⟩
 . have:=A2q f y fs;lia
 . show A7y ((Z9 f y fs).lookup g) (if g=f then some u else k g)
   rw[U0]
   by_cases q:g=f
   . rw[aC q,aC q];exact m
   . rw[aA q,aA q];exact r g
 by_cases q:g=f
 . rw[q];exact(B3s f y fs).1
 refine(B3s f y fs).2 g (i g fun z=>t ?_)
 show(if g=f then some u else k g)=none
 rw[aA q];exact z
def Inv.made(I:Inv X pins σ H s):Inv X pins σ (upd (upd H s.heap.objs.size (.own (s.heap.objs.size+1))) (s.heap.objs.size+1) (.ins C s.heap.objs.size []))
   {s with heap:=(s.heap.push W.emptyDict).push (W.instObj C s.heap.objs.size)}:=by
 have d:(s.heap.push W.emptyDict).get? s.heap.objs.size=some W.emptyDict:=bV s.heap rfl
 have i:((s.heap.push W.emptyDict).push (W.instObj C s.heap.objs.size)).get? (s.heap.objs.size+1)=some (W.instObj C s.heap.objs.size):=by
   have:=bV (s.heap.push W.emptyDict) (o:=W.instObj C s.heap.objs.size) rfl
   rwa[Heap.size_push] at this
 have h:(s.heap.push W.emptyDict).Ns s.heap.objs.size (fun _=>none):=⟨W.emptyDict, #[],_,d,rfl,(fun e he=>absurd he (by simp)),fun _=>rfl⟩
 have j:=I.laid (a:=s.heap.objs.size) (o:= .own (s.heap.objs.size+1)) (h':=s.heap.push W.emptyDict) (t':=s.toks) (fun b u q=>aF _ q) (aO _) ⟨_,d⟩
 refine j.laid (a:=s.heap.objs.size+1) (o:= .ins C s.heap.objs.size []) (t':=s.toks) (fun b u q=>aF _ q) (Nat.le_of_eq (Heap.size_push _ _)) ?_
 have c:s.heap.objs.size≠s.heap.objs.size+1:=cA (jA _)
 refine⟨by rw[D8 c,A6],bP _,c,i,fun _=>none,(Heap.Ns1.of_empty h).at fun o q=>aF _ q,fun _=>True.intro,fun y g=>absurd rfl g⟩
def D3j{f:Str}{s:Shared}(c:attributeBase e f env (eval e env)=eval e env)(h:wpAny (model prog w) A (eval e env) (fun o b=>wpAny (model prog w) A (getAttr o f true) Q E b) E s):wpAny (model prog w) A (eval (.Attribute e f pos) env) Q E s:=
 Attribute_any_ h (by rw[arm_eval_Attribute,c])
end
inductive U1y(K:W.Frag)(f:Str)(Q:VK)(x:V)(b:Hp):Prop
 |mk{a C c fs v}(_:x= .ref a)(_:b a=some (.ins C c fs))(_:Cls K C)(_:A0e K C f)(_:fs.lookup f=some v)(_:Q v b)
def U4t(K:W.Frag)(b:TE)(f:Str):TE:=fun a H Q=>b a H fun x c=>U1y K f Q x c
inductive U2e(K:W.Frag)(f:Str)(D:B0h)(d:St)(y x:V)(c:Hp):Prop
 |mk{a C b fs}(_:x= .ref a)(_:c a=some (.ins C b fs))(_:Cls K C)(_:A0e K C f)(_:fs.length<1000)(_:D.nx d (upd c a (.ins C b (Z9 f y fs))))
def V3c(K:W.Frag)(b tv:TE)(f:Str):TS:=fun D a H=>tv a H fun y d=>b a d fun x c=>U2e K f D a y x c
section
variable{X:Cx}{o e value:Expr}{f:Str}{pos pos' tpos:Pos}{ta tv:TE}
def C7(he:PE X e ta)(k:attributeBase e f X.env (eval e X.env)=eval e X.env):PE X (.Attribute e f pos) (U4t X.K ta f):=by
 intro b s g H Q I h
 refine D3j k (thn (he b s g H _ I h) fun u y d=>?_)
 obtain⟨x,t,r,i,q⟩:=d
 obtain @⟨a,C,z,fs,v,rfl,m,c,n,l,q⟩:=q
 obtain rfl:u=Value.ref a:=i
 exact D0u r m c n l fun w s2 p j=>⟨v,t,p,j,q⟩
def A0w(v:PE X o ta)(r:PE X value tv)(t:swapsWith value (some (.Attribute o f pos')) pos.line X.env=pure false):PS X (.Assign [.Attribute o f pos'] value pos) (V3c X.K ta tv f):=by
 intro b s d H D I h
 refine iV (thn (r b s d H _ I h) fun u i ⟨y,E,B,j,q⟩=>thn (v b i d E _ B q) fun p s2 g=>?_) t
 obtain⟨x,J,A,k,q⟩:=g
 obtain @⟨a,C,G,fs,rfl,w,c,n,l,m⟩:=q
 obtain rfl:p=Value.ref a:=k
 exact C8w A w c n l j fun F z=>⟨d,_,z,m⟩
end
section
variable{X:Cx}{pins:List (Addr×Obj)}{σ:St}{H:Hp}{s:Shared}{A:Around}{E:Value ->Shared ->Prop}{Q:Value ->Shared ->Prop}{c:Value}{b:Bool}
inductive A9e(K:W.Frag)(H:Hp):V ->Value ->Prop where
 |non:A9e K H .non (.type "NoneType")
 |bl (x:Bool):A9e K H (.bl x) (.type "bool")
 |int (i:Int):A9e K H (.int i) (.type "int")
 |str (x:Str):A9e K H (.str x) (.type "str")
 |flt (x:UInt64):A9e K H (.flt x) (.type "float")
 |lst {a:Addr} {xs:List V} (e:H a=some (.lst xs)):A9e K H (.ref a) (.type "list")
 |frz {a:Addr} {o:Obj} {xs:List V} (e:H a=some (.frz o (.lst xs))):A9e K H (.ref a) (.type "list")
 |tup {a:Addr} {xs:List V} (e:H a=some (.tup xs)):A9e K H (.ref a) (.type "tuple")
 |dK {a:Addr} {kvs:List (Key×V)} (e:H a=some (.dK kvs)):A9e K H (.ref a) (.type "dict")
 |dT {a:Addr} {kvs:List (List Key×V)} (e:H a=some (.dT kvs)):A9e K H (.ref a) (.type "dict")
 |ins {a C dx:Addr} {fs:List (Str×V)} (e:H a=some (.ins C dx fs)) (cl:Cls K C) (ha:W.findIn K (.ref C) "__class__"=some (some (.builtin "object.__class__")))
     (hn:W.specialIn K (.builtin "object.__class__") "__get__"=some (some (.builtin "getset_descriptor.__get__"))) (htk:W.takesIn K (.builtin "object.__class__")=some true)
     (hm:W.mroIn K C (.type "object")=some true):A9e K H (.ref a) (.ref C)
def D7f(I:Inv X pins σ H s)(d:Y3 x u)(ty:A9e X.K H x t)(e:W.kitOne X.K t c=some b)(h:∀tk,Q (.bool b) {s with toks:=tk}):
   wpAny (model X.prog X.w) A (call (.builtin "isinstance") [u,c]) Q E s:=by
 cases ty with
 |non=>cases(show u=Value.none from d);exact W.kia_one W.kitx_none I.kIn True.intro e (fun z=>nomatch z) h
 |bl y=>cases(show u=Value.bool y from d);exact W.kia_one W.kitx_bool I.kIn True.intro e (fun z=>nomatch z) h
 |int i=>obtain⟨t,q⟩:=(show∃t,u=Value.int i t from d);cases q;exact W.kia_one W.kitx_int I.kIn True.intro e (fun z=>nomatch z) h
 |str y=>obtain⟨t,q⟩:=(show∃t,u=Value.str y t from d);cases q;exact W.kia_one W.kitx_str I.kIn True.intro e (fun z=>nomatch z) h
 |flt y=>obtain⟨t,q⟩:=(show∃t,u=Value.float y t from d);cases q;exact W.kia_one W.kitx_float I.kIn True.intro e (fun z=>nomatch z) h
 | @lst a xs f=>
   cases(show u=Value.ref a from d)
   obtain⟨_,_,n,_,g⟩:=(show A1g X.prog X.w H s.heap a (.lst xs) from I.hok a _ f)
   exact W.kia_one W.kitx_list I.kIn ⟨_,g,rfl⟩ e (fun z=>nomatch z) h
 | @frz a m xs f=>
   cases(show u=Value.ref a from d)
   obtain⟨_,_,_,n,_,g⟩:=(show A1g X.prog X.w H s.heap a (.frz m (.lst xs)) from I.hok a _ f)
   exact W.kia_one W.kitx_list I.kIn ⟨_,g,rfl⟩ e (fun z=>nomatch z) h
 | @tup a xs f=>
   cases(show u=Value.ref a from d)
   obtain⟨_,_,_,p⟩:=(show A1g X.prog X.w H s.heap a (.tup xs) from I.hok a _ f)
   obtain⟨o,g,j,_⟩:=p
   exact W.kia_one W.kitx_tuple I.kIn ⟨o,g,j⟩ e (fun z=>nomatch z) h
 | @dK a kvs f=>
   cases(show u=Value.ref a from d)
   obtain⟨_,_,vs,_,p⟩:=(show A1g X.prog X.w H s.heap a (.dK kvs) from I.hok a _ f)
   obtain⟨o,B,D,g,j,_⟩:=p
   exact W.kia_one W.kitx_dict I.kIn ⟨o,g,j.1⟩ e (fun z=>nomatch z) h
 | @dT a kvs f=>
   cases(show u=Value.ref a from d)
   obtain⟨_,_,xs,_,o,B,D,g,j,_⟩:=(show A1g X.prog X.w H s.heap a (.dT kvs) from I.hok a _ f)
   exact W.kia_one W.kitx_dict I.kIn ⟨o,g,j.1⟩ e (fun z=>nomatch z) h
 | @ins a C L fs f l w r k v=>
   cases(show u=Value.ref a from d)
   obtain⟨G,O,_⟩:=B6q I.hok f
   obtain⟨F,J,_⟩:=O.look
   exact W.kia_one (W.kitx_own (l.get _) l.hd w r k v) I.kIn J e (fun z=>nomatch z) h
end
structure A1e(k:Nat)(A:Around):Prop where
 hd:A.handled=none
 dp:A.depth+3*k+5<recursionLimit
 un:A.units+16*k+200<cLine
def A1e.mono{j k:Nat}(r:A1e k A)(h:j<=k):A1e j A:=⟨r.hd,by have:=r.dp;lia,by have:=r.un;lia⟩
def A1e.deeper{k:Nat}{A:Around}(r:A1e (k+1) A)(env:Env):A1e k (A.deeper env):=
 ⟨r.hd,by have:=r.dp;show A.depth+1+3*k+5<_;lia,by have:=r.un;show A.units+3+16*k+200<_;lia⟩
def D1a{A:Around}:(A.under (.builtin "type.__call__" ⟨.ref C::us,a⟩)).depth=A.depth+1:=by
 first|rfl|simp[Around.under,Code.weight,Code.isCreation,Code.isGuard,Code.isCaller,Code.frames,Code.isFrame,guardIds]
def D0k{A:Around}:(A.under (.builtin "type.__call__" ⟨.ref C::us,a⟩)).units=A.units+1:=by
 first|rfl|simp[Around.under,Code.cUnits,Code.frames,Code.isFrame]
def A1e.make{k:Nat}{A:Around}(r:A1e (k+1) A)(C:Addr)(us:List Value)(a:List (Str×Value)):A1e k (A.under (.builtin "type.__call__" ⟨.ref C::us,a⟩)):=
 ⟨r.hd,by have:=r.dp;rw[D1a];lia,by have:=r.un;rw[D0k];lia⟩
def A1e.depth{k:Nat}{A:Around}(r:A1e k A):A.depth<recursionLimit:=by have:=r.dp;lia
def A1e.units{k:Nat}{A:Around}(r:A1e k A):A.units+64<cLine:=by have:=r.un;lia
def D7j:TA:=fun _ H Q=>Q [] H
def G1s(c:TE)(b:TA):TA:=fun a H Q=>c a H fun x e=>b a e fun xs d=>Q (x::xs) d
section
variable{X:Cx}{e:Expr}{es:List Expr}{te:TE}{t:TA}{pos:Pos}
def A1:PA X [] D7j:=fun _ _ _ _ H Q I h=>Calls.spliced_nil ⟨[],H,I,.nil,h⟩
def A0(m:PE X e te)(l:PA X es t)(k:starEach (e::es) X.env=(false,eval e X.env)::starEach es X.env:=by rfl):PA X (e::es) (G1s te t):=by
 intro pos a s c H Q I h
 rw[k]
 show wpAny _ _ (spliced ((false,eval e X.env)::backTo pos (starEach es X.env))) _ _ s
 refine Calls.spliced_cons (thn (m a s c H _ I h) fun u d b=>?_)
 obtain⟨x,q,o,g,j⟩:=b
 exact thn (l pos a d c q _ o j) fun us s2 ⟨xs,p,n,f,i⟩=>⟨x::xs,p,n,.cons g f,i⟩
def V2f(t:TA):TE:=fun b H Q=>t b H fun xs a=>xs.length<=sizeLine/\∀p,a p=none ->Q (.ref p) (upd a p (.tup xs))
def V1t(t:TA):TE:=fun b H Q=>t b H fun xs a=>xs.length<=sizeLine/\∀p,a p=none ->Q (.ref p) (upd a p (.lst xs))
def A0s{i}(h:PA X es t):PE X (.Tuple es i pos) (V2f t):=by
 intro a s g H Q I j
 refine wpAny_Tuple_spliced (thn (h pos a s g H _ I j) fun us c ⟨xs,f,d,r,z,q⟩=>⟨by rw[<-r.length];exact z,?_⟩)
 have k:f c.heap.objs.size=none:=d.hok.fresh (aO _)
 refine⟨.ref c.heap.objs.size,upd f c.heap.objs.size (.tup xs),d.laid (t':=c.toks) (fun b u e=>aF _ e) (aO _) ?_,rfl,q _ k⟩
 exact⟨z,us,r,⟨_,bV _ rfl,rfl,_,rfl⟩⟩
def G8(h:PA X es t):PE X (.List es pos) (V1t t):=by
 intro a s g H Q I i
 refine wpAny_List_spliced (thn (h pos a s g H _ I i) fun us c ⟨xs,f,d,r,z,q⟩=>⟨by rw[<-r.length];exact z,?_⟩)
 have j:f c.heap.objs.size=none:=d.hok.fresh (aO _)
 refine⟨.ref c.heap.objs.size,upd f c.heap.objs.size (.lst xs),d.laid (t':=c.toks) (fun b u e=>aF _ e) (aO _) ?_,rfl,q _ j⟩
 exact⟨z,us,0,r,bV _ rfl⟩
end
abbrev Sp:=List V ->Hp ->VK ->XK ->Prop
abbrev CXT:=List Env ->Hp ->Shared ->XK ->Value ->Shared ->Prop
structure D2b(P:Program)(w:World)(K:PySem.W.Frag)(mg:Str ->Option Value)(base:Heap)(A:Around)(outer:List Env)(s:Shared)(H:Hp):Prop where
 frames:A.frames=some outer
 mod:Mod K mg base
 bs:∀b o,base.get? b=some o ->s.heap.get? b=some o/\H b=none
 bsz:base.objs.size<=s.heap.objs.size
 funs:s.heap.FunFrames base outer
 frf:∀b∈frs outer,H b=none
 hok:HOk P w H s.heap
 bare:AllBare s.gens
inductive CE(outer:List Env)(P:Program)(w:World)(H:Hp)(s:Shared)(Q:VK)(u:Value)(a:Shared):Prop
 |mk(v b)(_:a.os=s.os)(_:AllBare a.gens)(_:Un (frs outer) [] H b s.heap a.heap)(_:HOk P w b a.heap)(_:Y3 v u)(_:Q v b)
def CR(CX:CXT)(outer:List Env)(P:Program)(w:World)(H:Hp)(s:Shared)(Q:VK)(E:XK)(r:Result)(a:Shared):Prop:=
 match r with
 | .ok (.ret u)=>CE outer P w H s Q u a
 | .ok _=>False
 | .error e=>CX outer H s E e a
structure B0(P:Program)(w:World)(K:PySem.W.Frag)(mg:Str ->Option Value)(base:Heap)(CX:CXT)(k:Nat)(f:Addr)(fd:FuncData)(ps:List Str)(sp:Sp):Prop where
 len:∀vs H Q E,sp vs H Q E ->vs.length=ps.length
 run:∀(A:Around) (outer:List Env) (s:Shared) (H:Hp) (args:Args) (us:List Value) (vs:List V) (Q:VK) (E:XK),A1e k A ->D2b P w K mg base A outer s H ->BindsTo s fd args (ps.zip us) ->U7 vs us ->sp vs H Q E ->
   codeAny (model P w) A (.call (.ref f) args) (CR CX outer P w H s Q E) s
def B0.mono{K:PySem.W.Frag}{j k:Nat}(F:B0 P w K Y Z CX j f fd ps sp)(h:j<=k):
   B0 P w K Y Z CX k f fd ps sp:=⟨F.len,fun A outer s H args us vs Q E a=>F.run A outer s H args us vs Q E (a.mono h)⟩
def B0.imp{K:PySem.W.Frag}{k:Nat}{sp a:Sp}(F:B0 P w K Y Z CX k f fd ps sp)(h:∀vs H Q E,a vs H Q E ->sp vs H Q E):B0 P w K Y Z CX k f fd ps a:=
 ⟨fun vs H Q E q=>F.len vs H Q E (h _ _ _ _ q),fun A outer s H args us vs Q E d he e b c=>F.run A outer s H args us vs Q E d he e b (h _ _ _ _ c)⟩
def D2b.make{K:PySem.W.Frag}{A:Around}(e:D2b P w K Y Z A outer s H)(C:Addr)(us:List Value)(a:List (Str×Value)):
   D2b P w K Y Z (A.under (.builtin "type.__call__" ⟨.ref C::us,a⟩)) outer s H:=⟨by first|exact e.frames|(simpa[Around.under,Code.envs,Code.isFrame,pushEnvs] using e.frames),e.mod,e.bs,e.bsz,e.funs,e.frf,e.hok,e.bare⟩
section
variable{X:Cx}{pins:List (Addr×Obj)}{σ:St}{H:Hp}{s s':Shared}
def Inv.env0(I:Inv X pins σ H s):D2b X.prog X.w X.K X.mg X.base X.A X.stack s H:=
 ⟨I.ok.frames,I.ok.mod,I.bs,bS I.ok.bsz I.sz,I.stack,I.stkFree,I.hok,I.bare⟩
def Inv.after(I:Inv X pins σ H s)(h:CE X.stack X.prog X.w H s Q u s'):EP X pins σ Q u s':=by
 obtain⟨v,e,os,bare,un,c,r,q⟩:=h
 obtain⟨hh,g,d,t,a⟩:=s'
 obtain rfl:a=s.os:=os
 exact⟨v,e,I.call (h':=hh) (g':=g) (d':=d) (t':=t) (ch:=[]) un c bare (fun b z=>absurd z (by simp)),r,q⟩
end
def U5z(C:Addr)(sp:Sp)(b:List V)(E:XK)(t:TA):TE:=fun d H Q=>t d H fun vs c=>∀x a,c x=none ->c a=none ->a≠x ->
 sp (.ref x::(vs++b)) (upd (upd c a (.own x)) x (.ins C a [])) (fun v e=>v= .non/\Q (.ref x) e) E
def Binds(K:W.Frag)(fd:FuncData)(ps:List Str)(ds:List Value):Prop:=
 ∀(s:Shared) (us:List Value),K.In s.heap ->(us++ds).length=ps.length ->BindsTo s fd ⟨us,[]⟩ (ps.zip (us++ds))
def Binds.all{K:W.Frag}{ps:List Str}(h:∀us:List Value,us.length=ps.length ->bindArgs fd ⟨us,[]⟩=pure (ps.zip us)):Binds K fd ps []:=fun s us _ a=>by
 rw[cP] at a ⊢
 exact .of_eq (h us a)
def D0g(CX:CXT)(X:Cx)(E:XK):Prop:=∀(a:List (Addr×Obj)) (c:St) (H:Hp) (s:Shared) (e:Value) (b:Shared),Inv X a c H s ->CX X.stack H s E e b ->X.xe e b
section
variable{X:Cx}{CX:CXT}{k:Nat}{f C:Addr}{fd:FuncData}{ps:List Str}{sp:Sp}{dvs:List V}{ds:List Value}{E:XK}{x m:Str}{p pos apos:Pos}{e o:Expr}{es:List Expr}{ta:TE}{t:TA}
structure Mk(K:W.Frag)(C f:Addr):Prop where
 makes:W.makesIn K C=true
 init:W.findIn K (.ref C) "__init__"=some (some (.ref f))
 fn:W.isFn K (.ref f)=true
 kp:W.keepIn K (.ref C)=true
def G4j{H:Hp}{Q:VK}(M:Mk X.K C f)(F:B0 X.prog X.w X.K X.mg X.base CX k f fd ps sp)(y:A1e (k+1) X.A)(B:Binds X.K fd ps ds)(A:U7 dvs ds)(w:D0g CX X E)(I:Inv X b g H s)(r:U7 vs us)(h:∀x c,H x=none ->H c=none ->c≠x ->sp (.ref x::(vs++dvs)) (upd (upd H c (.own x)) x (.ins C c [])) (fun v L=>v= .non/\Q (.ref x) L) E):
   wpAny (model X.prog X.w) X.A (call (.ref C) us) (EP X b g Q) X.xe s:=by
 have j:=h (s.heap.objs.size+1) s.heap.objs.size (I.hok.fresh (iI _)) (I.hok.fresh (aO _)) (cA (jA _))
 have d:=Inv.made (C:=C) I
 have i:U7 (V.ref (s.heap.objs.size+1)::(vs++dvs)) (Value.ref (s.heap.objs.size+1)::(us++ds)):= .cons rfl (r.append A)
 have z:(Value.ref (s.heap.objs.size+1)::us++ds).length=ps.length:=by
   have e:=i.length
   rw[F.len _ _ _ _ j] at e
   exact e.symm
 refine gE (C6u (f:=f) I.kIn M.makes M.init (gD.mp M.fn) (gF (F.run _ X.stack _ _ ⟨Value.ref (s.heap.objs.size+1)::us,[]⟩ (Value.ref (s.heap.objs.size+1)::(us++ds)) _ _ E (y.make C us [])
   (d.env0.make C us []) (B _ (Value.ref (s.heap.objs.size+1)::us) d.kIn z) i j) fun r l a=>?_))
 cases r with
 |error e=>exact w b g _ _ e l d a
 | ok D=>
   cases D with
   | ret u=>
     obtain⟨v,N,J,n,G,q⟩:=d.after a
     subst G
     exact⟨n,⟨V.ref (s.heap.objs.size+1),N,J,rfl,q⟩⟩
   |next=>exact False.elim a
   |brk=>exact False.elim a
   |cont=>exact False.elim a
def C2n(M:Mk X.K C f)(F:B0 X.prog X.w X.K X.mg X.base CX k f fd ps sp)(i:A1e (k+1) X.A)(l:Gl X x)(j:X.mg x=some (.ref C))(u:Binds X.K fd ps ds)(n:U7 dvs ds)(g:D0g CX X E)(v:PA X (e::es) t)(b:(x==("__debug__":Str))=false:=by decide)(he:starEach (e::es) X.env=(false,eval e X.env)::starEach es X.env:=by rfl)(hpl:(backTo pos (starEach es X.env)).any (·.1)=false:=by rfl):
   PE X (.Call (.Name x p) (e::es) [] pos) (U5z C sp dvs E t):=by
 intro a s d H Q I h
 refine cU (A2e I l j ?_ b)
 refine PySem.W.callWith_K (h₀:=X.base) I.ok.mod.kin M.kp (thn (v pos a s d H _ I h) fun us w ⟨vs,y,c,r,q⟩=>⟨c.kIn,?_⟩) he hpl
 exact G4j M F i u n g c r q
end
section
variable{X:Cx}{CX:CXT}{k:Nat}{f C:Addr}{fd:FuncData}{ps ks:List Str}{sp:Sp}{E:XK}{x m:Str}{p pos apos kpos:Pos}{e o:Expr}{es:List Expr}{kws:List Keyword}{te ta:TE}{t tk:TA}{nm:Option Str}
structure G5d(K:W.Frag)(fd:FuncData)(ps ks:List Str)(g:List Value ->List Value ->List Value)(gV:List V ->List V ->List V):Prop where
 to:∀(s:Shared) (us ws:List Value),K.In s.heap ->(g us ws).length=ps.length ->BindsTo s fd ⟨us,ks.zip ws⟩ (ps.zip (g us ws))
 rel:∀{vs:List V} {us:List Value} {zs:List V} {ws:List Value},U7 vs us ->U7 zs ws ->U7 (gV vs zs) (g us ws)
variable{g:List Value ->List Value ->List Value}{gV:List V ->List V ->List V}
end
structure B9(N P:List Str)(sc:Scope):Prop where
 kind:sc.kind= .function
 co:sc.isCoroutine=false
 gen:sc.isGenerator=false
 nd:N.Nodup
 pre:N.take P.length=P
 par:∀x∈P,sc.names.lookup x=some .local\/sc.names.lookup x=some .cell
 nofree:∀y∈sc.names,y.2≠ .free
def C0b{kindOf:Str ->Option NameKind}:∀{binds:List (Str×Value)} {m:Str ->Option Value},(∀v,(x,v) ∉ binds) ->bindL kindOf binds m x=m x
 | [],_,_=>rfl
 | (n,v)::r,m,h=>by
   unfold bindL
   rw[C0b fun w a=>h w (aJ _ a)]
   split
   . have:x≠n:=by rintro rfl;exact h v aH
     simp[this]
   . rfl
def C0k{kindOf:Str ->Option NameKind}:∀{binds:List (Str×Value)} {m:Str ->Option Value},(∀v,(x,v) ∉ binds) ->bindC kindOf binds m x=m x
 | [],_,_=>rfl
 | (n,v)::r,m,h=>by
   unfold bindC
   rw[C0k fun w a=>h w (aJ _ a)]
   split
   . rfl
   . have:x≠n:=by rintro rfl;exact h v aH
     simp[this]
def C0t{kindOf:Str ->Option NameKind}:∀{P:List Str} {vs:List Value} {i:Nat} {m:Str ->Option Value},P.Nodup ->P[i]?=some x ->vs[i]?=some v ->kindOf x=some .local ->
   bindL kindOf (P.zip vs) m x=some v
 | [],_,_,_,_,h,_,_=>by simp at h
 |_::_,[],_,_,_,_,h,_=>by simp at h
 | p::P,w::vs,0,m,c,b,a,d=>by
   simp at b a;subst b;subst a
   show bindL kindOf ((p,w)::P.zip vs) m p=_
   unfold bindL
   rw[C0b fun v e=>(jI.mp c).1 (kH e).1,aC d]
   simp
 | p::P,w::vs,i+1,m,c,b,a,d=>by
   show bindL kindOf ((p,w)::P.zip vs) m x=_
   unfold bindL
   exact C0t (i:=i) (jI.mp c).2 (by simpa using b) (by simpa using a) d
def C1c{kindOf:Str ->Option NameKind}:∀{P:List Str} {vs:List Value} {i:Nat} {m:Str ->Option Value},P.Nodup ->P[i]?=some x ->vs[i]?=some v ->kindOf x≠some .local ->
   bindC kindOf (P.zip vs) m x=some v
 | [],_,_,_,_,h,_,_=>by simp at h
 |_::_,[],_,_,_,_,h,_=>by simp at h
 | p::P,w::vs,0,m,c,b,a,d=>by
   simp at b a;subst b;subst a
   show bindC kindOf ((p,w)::P.zip vs) m p=_
   unfold bindC
   rw[C0k fun v e=>(jI.mp c).1 (kH e).1,aA d]
   simp
 | p::P,w::vs,i+1,m,c,b,a,d=>by
   show bindC kindOf ((p,w)::P.zip vs) m x=_
   unfold bindC
   exact C1c (i:=i) (jI.mp c).2 (by simpa using b) (by simpa using a) d
def A7w(N:List Str)(vs:List V):St:=vs.map some++List.replicate (N.length-vs.length) none
def A1m(CX:CXT)(P:Program)(w:World)(K:PySem.W.Frag)(Y:Str ->Option Value)(Z:Heap)(N:List Str)(a:Str)(scope:Scope)(f:Addr)(c:Value)(A:Around)(outer:List Env)(s:Shared)(H:Hp)(E:XK):Cx where
 prog:=P
 w:=w
 K:=K
 mg:=Y
 base:=Z
 A:=A.deeper (envOfC a scope s.heap.objs.size f c)
 N:=N
 s₀:=s
 H₀:=H
 env:=envOfC a scope s.heap.objs.size f c
 outer:=outer
 stack:=envOfC a scope s.heap.objs.size f c::outer
 ex:=[]
 calm:=true
 fn:=fun _=>true
 pn:=[]
 xe:=fun e d=>wpAny (model P w) (A.deeper (envOfC a scope s.heap.objs.size f c)) (leaving (envOfC a scope s.heap.objs.size f c) e) (fun _ b=>CX outer H s E e b) (fun g b=>CX outer H s E g b) d
def C6s{a:Scope}{n:Nat}(h:a.names.lookup x=some .cell):∃c,(cellsFrom n a.names []).lookup x=some c:=by
 have q:=W.cellsFrom_some a.names n [] (.inl h)
 exact Option.isSome_iff_exists.mp q
def D6v{K:PySem.W.Frag}{N ps:List Str}{scope:Scope}{A:Around}{s F:Shared}{vs:List V}(S:B9 N ps scope)(L:A.handled=none)(j:D2b P w K Y Z A outer s H)(O:vs.length=ps.length)(r:U7 vs us)(x:InCallC s s.heap.objs.size (bindL (envOfC g scope s.heap.objs.size f D).kindOf (ps.zip us) fun _=>none) (cellsFrom (s.heap.objs.size+1) scope.names []) (bindC (envOfC g scope s.heap.objs.size f D).kindOf (ps.zip us) fun _=>none) F):
   Inv (A1m CX P w K Y Z N g scope f D A outer s H E) [] (A7w N vs) H F:=by
 have hpl:ps.length<=N.length:=by have:=aM List.length S.pre;rw[cR] at this;lia
 obtain⟨C,tk,rfl,I⟩:=x.done
 have l:∀b:Addr,b ∉ (A1m CX P w K Y Z N g scope f D A outer s H E).ex:=fun b z=>absurd (show b∈([]:List Addr) from z) (by simp)
 refine⟨⟨j.mod,S.kind,rfl,rfl,aO _,fun y z c C d=>?_,fun y m=>?_,fun y c _ h=>?_,fun _=>L,Around.frames_deeper j.frames,.inr ⟨rfl,rfl⟩,fun b z=>absurd z (l b),j.bs,j.bsz,fun b _ _=>l b,fun b z=>absurd z (l b),j.funs,j.frf⟩,
   rfl,j.bare,Un.kept I,⟨_,x.toInCall.ns,fun i y v C d Q=>?_⟩,fun y c h=>⟨_,x.cell y c h⟩,j.hok.fresh (aO _),fun y c h=>?_,fun p t=>absurd (show p∈([]:List (Addr×Obj)) from t) (by simp),j.hok.kept I,?_⟩
 . exact name_of_addr x.apart (PySem.mem_of_lookup C) (PySem.mem_of_lookup d)
 . have m:scope.names.lookup y=some .cell\/scope.names.lookup y=some .free:=m
   rcases m with m|m
   . exact C6s m
   . exact absurd rfl (S.nofree _ (PySem.mem_of_lookup m))
 . exact fk (x.above y c (PySem.mem_of_lookup h))
 . have B:i<vs.length:=by
     unfold A7w at d
     by_cases B:i<vs.length
     . exact B
     . rw[cG (by simpa using B)] at d
       rw[List.getElem?_replicate] at d
       split at d<;>cases d
   have M:vs[i]?=some v:=by
     unfold A7w at d
     rw[cH (by simpa using B),eX] at d
     cases e:vs[i]? with
     |none=>rw[e] at d;cases d
     |some a=>rw[e] at d;cases d;rfl
   obtain⟨u,G,J⟩:=r.get M
   have t:ps[i]?=some y:=by
     rw[<-S.pre,List.getElem?_take_of_lt (by lia)];exact C
   have o:ps.Nodup:=by rw[<-S.pre];exact S.nd.sublist (List.take_sublist _ _)
   refine⟨u,J,?_⟩
   rcases S.par y (cF t) with k|k
   . exact .inl ⟨k,C0t o t G k⟩
   . obtain⟨c,e⟩:=C6s (n:=s.heap.objs.size+1) k
     refine .inr ⟨.inl k,c,e,?_⟩
     have q:=x.cell y c e
     rw[C1c o t G (by show scope.names.lookup y≠_;rw[k];decide)] at q
     exact q
 . exact j.hok.fresh (fk (x.above y c (PySem.mem_of_lookup h)))
 unfold A7w
 show _=N.length
 rw[aG,aP,cZ]
 lia
def G1v{K:PySem.W.Frag}{k:Nat}{R kV B O c ct W:Value}{N ps:List Str}{sp:Sp}(X:K.lookup f=some ⟨W,od,.func (PySem.W.fnOf name a g h scope R kV B O an c ct),U⟩)(L:PySem.W.codeIn K c a=true)(S:B9 N ps scope)(len:∀vs H Q E,sp vs H Q E ->vs.length=ps.length)(l:∀(A:Around) (outer:List Env) (s:Shared) (H:Hp) (vs:List V) (Q:VK) (E:XK),A1e k (A.deeper (envOfC a scope s.heap.objs.size f c)) ->sp vs H Q E ->
     ∃t,PSs (A1m CX P w K Y Z N a scope f c A outer s H E) h t/\t {nx:=fun _ i=>Q .non i,rt:=Q} (A7w N vs) H):
   B0 P w K Y Z CX (k+1) f (PySem.W.fnOf name a g h scope R kV B O an c ct) ps sp:=by
 refine⟨len,fun A outer s H args us vs Q E G z hb r p=>?_⟩
 have hl:=len _ _ _ _ p
 have T:K.In s.heap:=z.mod.kin.keeps fun b o e=>(z.bs b o e).1
 have F:s.heap.NoLimit:=z.mod.nolimit.keeps fun b o e=>(z.bs b o e).1
 have j:∀y∈ps.zip us,scope.names.lookup y.1=some .local\/(scope.names.lookup y.1=some .cell/\((cellsFrom (s.heap.objs.size+1) scope.names []).lookup y.1).isSome=true):=fun⟨n,v⟩ hy=>by
   rcases S.par n (kH hy).1 with q|q
   . exact .inl q
   . exact .inr ⟨q,PySem.W.cellsFrom_some _ _ _ (.inl q)⟩
 refine codeAny_call_function G.depth (T _ _ X) rfl S.co S.gen rfl (PySem.W.codeRec_of T L) (hb _ _ _ _ ?_)
 refine wpAny_newFunctionEnv_cells S.kind j fun env he M x=>?_
 subst he
 refine⟨F.keeps x.toInCall.keep,codeAny_func ?_⟩
 obtain⟨t,ht,hq⟩:=l A outer s H vs Q E (G.deeper _) p
 have I:Inv (A1m CX P w K Y Z N a scope f c A outer s H E) [] (A7w N vs) H M:=D6v S G.hd z hl r x
 refine bX (ht [] M (A7w N vs) H _ I hq) (fun fl C m=>?_) fun e C m=>m
 have fin:∀{d:St} {i:Hp} {v:V} {u:Value},Inv (A1m CX P w K Y Z N a scope f c A outer s H E) [] d i C ->Y3 v u ->Q v i ->CE outer P w H s Q u C:=
   fun{d i v u} J D q=>⟨v,i,J.os,J.bare,J.base,J.hok,D,q⟩
 cases fl with
 | ret u=>
   obtain⟨v,d,i,J,D,q⟩:=m
   exact fin J D q
 | next=>
   obtain⟨d,i,J,q⟩:=m
   exact fin (v:=V.non) (u:=Value.none) J rfl q
 | brk=>
   obtain⟨_,_,_,q⟩:=m
   exact False.elim q
 | cont=>
   obtain⟨_,_,_,q⟩:=m
   exact False.elim q
section
variable{X:Cx}{x:Str}{p pos:Pos}{e:Expr}{es:List Expr}{t:TA}{id T:String}{r:List V ->Hp ->VK ->Prop}
def tCB(r:List V ->Hp ->VK ->Prop)(t:TA):TE:=fun a H Q=>t a H fun vs b=>r vs b Q
def G9(m:A6j X (.builtin id) r)(l:Gl X x)(k:X.mg x=none)(i:bootBuiltins x=some (.builtin id))(n:PA X (e::es) t)(j:x≠"__name__":=by decide)(b:(x==("__debug__":Str))=false:=by decide)(he:starEach (e::es) X.env=(false,eval e X.env)::starEach es X.env:=by rfl)(hpl:(backTo pos (starEach es X.env)).any (·.1)=false:=by rfl):PE X (.Call (.Name x p) (e::es) [] pos) (tCB r t):=by
 intro a s c H Q I h
 refine cU (B8r I l k i ?_ j b)
 exact PyProof.Rows.callWith_builtin1 (thn (n pos a s c H _ I h) fun us d ⟨vs,q,o,f,g⟩=>m a d c q vs us Q o f g) he hpl
def U8(m:A6j X (.type T) r)(l:Gl X x)(k:X.mg x=none)(i:bootBuiltins x=some (.type T))(n:PA X (e::es) t)(j:x≠"__name__":=by decide)(b:(x==("__debug__":Str))=false:=by decide)(he:starEach (e::es) X.env=(false,eval e X.env)::starEach es X.env:=by rfl)(hpl:(backTo pos (starEach es X.env)).any (·.1)=false:=by rfl):PE X (.Call (.Name x p) (e::es) [] pos) (tCB r t):=by
 intro a s c H Q I h
 refine cU (B8r I l k i ?_ j b)
 exact gJ (thn (n pos a s c H _ I h) fun us d ⟨vs,q,o,f,g⟩=>m a d c q vs us Q o f g) he hpl
end
end L2
namespace HT
open PySem PyProof.Rows
section
open PySem.SeqAt
open PySem.AutoSeq1 (wpAny_loadPart')
open PySem.MeetsSeq PySem.MeetsSeq2 PySem.MeetsSeq3
end
section
variable{prog:Program}{w:World}{A:Around}{E:Value ->Shared ->Prop}{s:Shared}
def sIx(n d:Nat):Option Int ->Nat
 |none=>d
 |some v=>if v<0 then(v+(n:Int)).toNat else min v.toNat n
def sIx_none(n d:Nat):sIx n d none=d:=rfl
def sIx_nat(n d k:Nat):sIx n d (some (k:Int))=min k n:=by
 show(if(k:Int)<0 then((k:Int)+(n:Int)).toNat else min (k:Int).toNat n)=min k n
 rw[aA (by lia),iJ]
end
end HT
namespace L2
open PySem PySem.Spec PyProof.Rows
abbrev TO:=St ->Hp ->(Option Int ->Hp ->Prop) ->Prop
def PO(X:Cx)(e:Option Expr)(t:TO):Prop:=
 ∀ (a:List (Addr×Obj)) (s:Shared) (b:St) (H:Hp) (Q:Option Int ->Hp ->Prop),Inv X a b H s ->t b H Q ->
   wpAny (model X.prog X.w) X.A (evalPart e X.env) (fun u d=>∃o c,Inv X a b c d/\IsPart u o/\Q o c) X.xe s
def J4r:TO:=fun _ H Q=>Q none H
inductive J5z(Q:Option Int ->Hp ->Prop)(x:V)(a:Hp):Prop
 |mk(i)(_:x= .int i)(_:Q (some i) a)
def U5y(t:TE):TO:=fun a H Q=>t a H fun x b=>J5z Q x b
section
variable{X:Cx}{e:Expr}{te:TE}{lo hi:Option Expr}{tl th:TO}{pos p2:Pos}
def A0q:PO X none J4r:=by
 intro a s b H Q I h
 rw[evalPart_none]
 exact aR ⟨none,H,I,.none,h⟩
def A0p(h:PE X e te):PO X (some e) (U5y te):=by
 intro a s c H Q I g
 rw[evalPart_some]
 refine thn (h a s c H _ I g) fun u l b=>?_
 obtain⟨x,k,j,d,f⟩:=b
 obtain⟨i,rfl,q⟩:=f
 obtain⟨t,rfl⟩:=d
 exact⟨some i,k,j,.int i t,q⟩
def SlR(X:Cx)(r:V ->Option Int ->Option Int ->Hp ->VK ->Prop):Prop:=
 ∀ (a:List (Addr×Obj)) (s:Shared) (b:St) (H:Hp) (x:V) (v d c:Value) (lo hi:Option Int) (f:Addr) (Q:VK),Inv X a b H s ->Y3 x v ->s.heap.IsSliceOf f d c .none ->IsPart d lo ->IsPart c hi ->r x lo hi H Q ->
   ∃T id,typeLookup (.type T) "__getitem__"=pure (some (.builtin id))/\s.TypeIs v T/\wpAny (model X.prog X.w) X.A (getItem v (.ref f)) (EP X a b Q) X.xe s
def tSl(r:V ->Option Int ->Option Int ->Hp ->VK ->Prop)(te:TE)(tl th:TO):TE:=fun a H Q=>te a H fun x d=>tl a d fun l c=>th a c fun u b=>r x l u b Q
def Z8(z:SlR X r)(he:PE X e te)(A:PO X lo tl)(w:PO X hi th):PE X (.Subscript e (.Slice lo hi none p2) pos) (tSl r te tl th):=by
 intro a s f H Q I h
 refine Subscript_ (thn (he a s f H _ I h) fun v k d=>?_)
 obtain⟨x,L,G,m,p⟩:=d
 refine wpAny_Slice (thn (A a k f L _ G p) fun i s2 ⟨l,J,F,pl,o⟩=>thn (w a s2 f J _ F o) fun g c d=>?_)
 obtain⟨u,j,E,t,n⟩:=d
 rw[evalPart_none]
 refine aR ?_
 have D:Inv X a f j {c with heap:=c.heap.push {cls:= .type "slice",data:= .fields #[i,g,.none]}}:=E.kept (t':=c.toks) fun b M q=>aF _ q
 obtain⟨T,id,C,y,B⟩:=z a {c with heap:=c.heap.push {cls:= .type "slice",data:= .fields #[i,g,.none]}} f j x v i g l u c.heap.objs.size Q D m (Heap.IsSliceOf.new ..) pl t n
 show wpAny (model X.prog X.w) X.A (subscriptTail e (.Slice lo hi none p2) v (.ref c.heap.objs.size)) (EP X a f Q) X.xe {c with heap:=c.heap.push {cls:= .type "slice",data:= .fields #[i,g,.none]}}
 exact tail_any (ops:=[.ref c.heap.objs.size,v]) y C B (by with_unfolding_all rfl)
def A3v(xs:List V)(lo hi:Option Int):List V:=(xs.drop (HT.sIx xs.length 0 lo)).take (HT.sIx xs.length xs.length hi-HT.sIx xs.length 0 lo)
def C7f(xs:List V)(lo hi:Option Int):(A3v xs lo hi).length<=xs.length:=by
 unfold A3v
 rw[cR,bZ]
 lia
end
def ixN(n:Nat)(i:Int):Option Nat:=if 0<=i then(if i<n then some i.toNat else none) else if -(n:Int)<=i then some (i+n).toNat else none
def atI{a:Type}(xs:List a)(i:Int):Option a:=(ixN xs.length i).bind fun j=>xs[j]?
def D3u{n:Nat}{i:Int}{j:Nat}(h:ixN n i=some j):seqIndex? i n=some j/\j<n/\ -(n:Int)<=i/\i<n:=by
 unfold ixN at h
 by_cases b:0<=i
 . rw[aC b] at h
   by_cases a:i<n
   . rw[aC a] at h
     have e:i.toNat=j:=bF h
     exact⟨by rw[seqIndex_of b a,e],by lia,by lia,a⟩
   . rw[aA a] at h;cases h
 rw[aA b] at h
 by_cases a: -(n:Int)<=i
 . rw[aC a] at h
   have e:(i+n).toNat=j:=bF h
   exact⟨by rw[seqIndex_neg (by lia) a,e],by lia,a,by lia⟩
 rw[aA a] at h;cases h
def C3f{a:Type}{xs:List a}{i:Int}{v:a}(h:atI xs i=some v):∃j,seqIndex? i xs.length=some j/\xs[j]?=some v/\j<xs.length/\ -(xs.length:Int)<=i/\i<xs.length:=by
 unfold atI at h
 cases e:ixN xs.length i with
 |none=>rw[e] at h;cases h
 | some j=>
   rw[e] at h
   obtain⟨f,d,c,b⟩:=D3u e
   exact⟨j,f,h,d,c,b⟩
def D9{a:Type}{xs:List a}{j:Nat}{v:a}(h:xs[j]?=some v):atI xs (j:Int)=some v:=by
 have b:j<xs.length:=(bQ.mp h).1
 have e:ixN xs.length (j:Int)=some j:=by
   unfold ixN
   rw[aC (by lia),aC (by lia)];simp
 unfold atI;rw[e];exact h
def J2p(b:Expr):Prop:=∀o i,subscripted b false o i=operate [o,i] (getItem o i)
def IxR(X:Cx)(r:R2):Prop:=
 ∀ (value a:Expr) (b:List (Addr×Obj)) (s:Shared) (c:St) (H:Hp) (x y:V) (v u:Value) (Q:VK),Inv X b c H s ->Y3 x v ->Y3 y u ->r x y H Q ->
   subscripted a false v u=operate [v,u] (getItem v u) ->wpAny (model X.prog X.w) X.A (subscriptTail value a v u) (EP X b c Q) X.xe s
def MtR(X:Cx)(id:String)(r:V ->List V ->Hp ->VK ->Prop):Prop:=
 ∀ (a:List (Addr×Obj)) (s:Shared) (b:St) (H:Hp) (x:V) (xs:List V) (v:Value) (us:List Value) (Q:VK),Inv X a b H s ->Y3 x v ->U7 xs us ->r x xs H Q ->
   wpAny (model X.prog X.w) X.A (call (.builtin id) (v::us)) (EP X a b Q) X.xe s
section
variable{X:Cx}{a b:Expr}{ta tb:TE}{pos:Pos}
def G7(i:IxR X r)(k:PE X a ta)(j:PE X b tb)(g:J2p b):PE X (.Subscript a b pos) (tOp r ta tb):=by
 intro c s d H Q I h
 exact Subscript_ (J8d k j I h fun v u s2 x y m l f e q=>i a b c s2 d m x y v u Q l f e q (g _ _))
inductive U9c(K:W.Frag)(x y:V)(H:Hp)(Q:VK):Prop
 |mk{p xs i v}(_:x= .ref p)(_:y= .int i)(_:SqL K H p xs)(_:atI xs i=some v)(_:Q v H)
inductive U9e(K:W.Frag)(x y:V)(H:Hp)(Q:VK):Prop
 |mk{p xs i v}(_:x= .ref p)(_:y= .int i)(_:SqT K H p xs)(_:atI xs i=some v)(_:Q v H)
inductive V4f(x y:V)(H:Hp)(Q:VK):Prop
 |mk(z i c)(_:x= .str z)(_:y= .int i)(_:z.length<=sizeLine)(_:atI z.cps.toList i=some c)(_:Q (.str ⟨#[c]⟩) H)
def G4:IxR X (U9c X.K):=by
 intro value e c s k H x y v u Q I B A h l
 obtain @⟨p,xs,i,z,rfl,rfl,C,he,q⟩:=h
 cases B
 obtain⟨t,rfl⟩:=A
 obtain⟨f,r,pl,J⟩:=I.list C
 obtain⟨j,d,G,M,F,E⟩:=C3f he
 obtain⟨w,n,rw'⟩:=r.get G
 have D:=r.length
 have L:=B4a
 have fin:EP X c k Q w s:=⟨z,H,I,rw',q⟩
 by_cases m:0<=i
 . have g:i.toNat=j:=by
     rw[seqIndex_of m E] at d
     exact bF d
   exact item_listR pl.isList m (by lia) (by rw[g];simpa using n) fin l
 have g:(i+(f.toArray.size:Int)).toNat=j:=by
   rw[seqIndex_neg (by lia) F] at d
   rw[bG, <-D]
   exact bF d
 exact subscriptTail_builtinR (x:=w) pl.isList.typeIs jY.lookup
   (wpAny_getItem_list_neg (Q:=fun r o=>r=w/\EP X c k Q r o) pl.isList (by lia) (by rw[bG]<;>lia) (by lia) (by rw[g];simpa using n) ⟨rfl,fin⟩) l
def A0d:IxR X (U9e X.K):=by
 intro value d c s e H x y v u Q I k g h m
 obtain @⟨p,xs,i,z,rfl,rfl,n,he,q⟩:=h
 cases k
 obtain⟨t,rfl⟩:=g
 obtain⟨l,r,pl,D⟩:=I.tuple n
 obtain⟨j,B,A,J,G,F⟩:=C3f he
 obtain⟨w,C,rw'⟩:=r.get A
 have o:=r.length
 have E:=B4a
 have fin:EP X c e Q w s:=⟨z,H,I,rw',q⟩
 exact subscriptTail_builtinR (x:=w) pl.typeIs slot_tuple_getitem.lookup
   (getItem_tuple (j:=j) (Q:=fun r f=>r=w/\EP X c e Q r f) pl (by lia) (by lia) (by rw[bG, <-o];exact B) (by simpa using C) ⟨rfl,fin⟩) m
def U0z:IxR X V4f:=by
 intro value d e s A H x y v u Q I k g h l
 obtain⟨z,i,c,rfl,rfl,B,he,q⟩:=h
 obtain⟨t,rfl⟩:=k
 obtain⟨t',rfl⟩:=g
 obtain⟨j,f,p,D,o,n⟩:=C3f he
 have m:z.cps.toList.length=z.length:=by simp[Str.length]
 rw[m] at f o n
 have C:=B4a
 exact tail_any (iG s z t) slot_str_getitem.lookup (getItem_str (c:=c) (by
   have w:decide (i< -(2^63:Int))=false:=aI (by lia)
   have r:decide (i>=2^63)=false:=aI (by lia)
   rw[w,r,Bool.or_false]) (by rw[f];simpa using p) ⟨.str ⟨#[c]⟩,H,I.tok _,⟨_,rfl⟩,q⟩) l
def C8m(c:List Value)(n j:Nat)(u:Value):Obj.mapSeq (·.setIfInBounds j u) {cls:= .type "list",data:= .seq c.toArray n}={cls:= .type "list",data:= .seq (c.set j u).toArray n}:=by
 simp[Obj.mapSeq]
def Inv.lst{H:Hp}{s:Shared}{xs:List V}(I:Inv X d f H s)(h:H p=some (.lst xs)):
   ∃(c:List Value) (n:Nat),U7 xs c/\s.heap.get? p=some {cls:= .type "list",data:= .seq c.toArray n}/\xs.length<=sizeLine:=by
 obtain⟨z,c,n,r,e⟩:=I.hok p _ h
 exact⟨c,n,r,e,z⟩
def Inv.lstUpd{H:Hp}{s:Shared}{xs ys:List V}{d its':List Value}{n g:Nat}(I:Inv X c j H s)(h:H p=some (.lst xs))(ho:s.heap.get? p=some {cls:= .type "list",data:= .seq d.toArray n})(i:f {cls:= .type "list",data:= .seq d.toArray n}={cls:= .type "list",data:= .seq its'.toArray g})(r:U7 ys its')(k:ys.length<=sizeLine)(t:Nat):
   Inv X c j (upd H p (.lst ys)) {s with heap:=s.heap.update p f,toks:=t}:=by
 have e:(s.heap.update p f).get? p=some {cls:= .type "list",data:= .seq its'.toArray g}:=by
   rw[fD f ho (by rw[i]<;>rfl),i]
 refine I.write (x:=p) (e:=p) (by rw[h];trivial) (.inl rfl) (fun b u l q=>(eJ _ _ (eU l)).trans q) ⟨_,e⟩ ?_
 exact⟨k,its',g,r,e⟩
inductive U9a(o i:V)(v:V)(H:Hp)(Q:Hp ->Prop):Prop
 |mk(p xs k j)(_:o= .ref p)(_:i= .int k)(_:H p=some (.lst xs))(_:ixN xs.length k=some j)(_:Q (upd H p (.lst (xs.set j v))))
def C5p:U7n X U9a:=by
 intro c s z H o i v F G u Q I B C A h
 obtain⟨p,xs,k,j,rfl,rfl,l,E,q⟩:=h
 cases B
 obtain⟨t,rfl⟩:=C
 obtain⟨d,n,r,ho,D⟩:=I.lst l
 obtain⟨e,L,w,m⟩:=D3u E
 have f:=r.length
 have J:=B4a
 have y:Inv X c z (upd H p (.lst (xs.set j v))) {s with heap:=s.heap.update p (Obj.mapSeq (·.setIfInBounds j u))}:=
   I.lstUpd l ho (C8m d n j u) (r.set A j) (by rw[List.length_set];exact D) s.toks
 by_cases x:0<=k
 . have g:k.toNat=j:=by
     rw[seqIndex_of x m] at e
     exact bF e
   exact W.ki_setAt ho x (by lia) (by rw[bG, <-f];exact m) (by rw[g];exact⟨_,y,q⟩)
 have g:(k+(d.toArray.size:Int)).toNat=j:=by
   rw[seqIndex_neg (by lia) w] at e
   rw[bG, <-f]
   exact bF e
 exact W.ki_setBack ho (by lia) (by rw[bG, <-f];exact w) (by lia) (by rw[g];exact⟨_,y,q⟩)
def C2s(lo c:Option Int)(n:Nat):(sliceBounds lo c none n).1=((HT.sIx n 0 lo:Nat):Int)/\(sliceBounds lo c none n).2.1=((HT.sIx n n c:Nat):Int)/\(sliceBounds lo c none n).2.2=1:=by
 refine⟨?_,?_,rfl⟩
 . cases lo with
   |none=>simp[sliceBounds,HT.sIx]
   | some i=>
     simp only[sliceBounds,HT.sIx,Option.getD_none,show(1:Int)>0 by decide,kW]
     by_cases h:i<0
     . simp only[h,kW]<;>lia
     . simp only[h,kN]<;>lia
 cases c with
 |none=>simp[sliceBounds,HT.sIx]
 | some i=>
   simp only[sliceBounds,HT.sIx,Option.getD_none,show(1:Int)>0 by decide,kW]
   by_cases h:i<0
   . simp only[h,kW]<;>lia
   . simp only[h,kN]<;>lia
def B9t(c:List Value)(lo d:Option Int):slicePick c.toArray lo d none=((c.drop (HT.sIx c.length 0 lo)).take (HT.sIx c.length c.length d-HT.sIx c.length 0 lo)).toArray:=by
 obtain⟨g,f,e⟩:=C2s lo d c.toArray.size
 unfold slicePick
 rw[g,f,e]
 simp only[sliceRange_one,pick_run,bG]<;>rfl
inductive V4e(K:W.Frag)(x:V)(lo:Option Int)(c:Option Int)(H:Hp)(Q:VK):Prop
 |mk(a xs)(_:x= .ref a)(_:SqL K H a xs)(_:∀p,H p=none ->Q (.ref p) (upd H p (.lst (A3v xs lo c))))
def A3n:SlR X (V4e X.K):=by
 intro e s n H x v t p lo d u Q I g m pl i h
 obtain⟨a,xs,rfl,l,q⟩:=h
 cases g
 obtain⟨j,r,f,k⟩:=I.list l
 have c:=r.length
 refine⟨"list",_,jY.lookup,f.isList.typeIs,?_⟩
 refine wpAny_getItem_list_slice f.isList m pl i .none (by simp) ?_ (by rw[bG]<;>lia)
 rw[B9t, <-c]
 refine⟨.ref s.heap.objs.size,_,I.laid (t':=s.toks) (o:= .lst (A3v xs lo d)) (fun b w q=>aF _ q) (aO _) ?_,rfl,q _ (I.hok.fresh (aO _))⟩
 exact⟨bS (C7f xs lo d) k,_,0,(r.drop (HT.sIx xs.length 0 lo)).take (HT.sIx xs.length xs.length d-HT.sIx xs.length 0 lo),bV _ rfl⟩
def B1q:V ->Bool
 | .non=>true
 | .bl _=>true
 | .int _=>true
 | .str _=>true
 |_=>false
def eqV:V ->V ->Bool
 | .non,.non=>true
 | .bl a,.bl b=>a==b
 | .bl a,.int b=>(if a then 1 else 0)==b
 | .int a,.bl b=>a==(if b then 1 else 0)
 | .int a,.int b=>a==b
 | .str a,.str b=>a==b
 |_,_=>false
def J9h(d:Y3 y u)(c:Y3 x v)(f:B1q y=true)(e:B1q x=true):SeqAt.EqAt A s u v (eqV y x):=by
 cases y with
 | non=>
   cases d
   cases x with
   |non=>cases c;exact SeqAt.EqAt.same _
   |bl b=>cases c;exact SeqAt.EqAt.none_bool b
   |int b=>obtain⟨t,rfl⟩:=c;exact SeqAt.EqAt.none_int b t
   |str b=>obtain⟨t,rfl⟩:=c;exact SeqAt.EqAt.none_str b t
   |_=>exact absurd (show false=true from e) aB
 | bl a=>
   cases d
   cases x with
   |non=>cases c;exact SeqAt.EqAt.bool_none a
   |bl b=>cases c;exact SeqAt.EqAt.bool_bool a b
   |int b=>obtain⟨t,rfl⟩:=c;exact SeqAt.EqAt.bool_int a b t
   |str b=>obtain⟨t,rfl⟩:=c;exact SeqAt.EqAt.bool_str a b t
   |_=>exact absurd (show false=true from e) aB
 | int a=>
   obtain⟨t',rfl⟩:=d
   cases x with
   |non=>cases c;exact SeqAt.EqAt.int_none a t'
   |bl b=>cases c;exact SeqAt.EqAt.int_bool a t' b
   |int b=>obtain⟨t,rfl⟩:=c;exact SeqAt.EqAt.int_int a t' b t
   |str b=>obtain⟨t,rfl⟩:=c;exact SeqAt.EqAt.int_str a t' b t
   |_=>exact absurd (show false=true from e) aB
 | str a=>
   obtain⟨t',rfl⟩:=d
   cases x with
   |non=>cases c;exact SeqAt.EqAt.str_none a t'
   |bl b=>cases c;exact SeqAt.EqAt.str_bool a t' b
   |int b=>obtain⟨t,rfl⟩:=c;exact SeqAt.EqAt.str_int a t' b t
   |str b=>obtain⟨t,rfl⟩:=c;exact SeqAt.EqAt.str_str a t' b t
   |_=>exact absurd (show false=true from e) aB
 |_=>exact absurd (show false=true from f) aB
def eqU(x:V)(u:Value):Bool:=match u with
 | .none=>eqV .non x
 | .bool b=>eqV (.bl b) x
 | .int i _=>eqV (.int i) x
 | .str z _=>eqV (.str z) x
 |_=>false
def G4q(r:Y3 y u)(f:B1q y=true):eqU x u=eqV y x:=by
 cases y with
 |non=>cases r;rfl
 |bl b=>cases r;rfl
 |int i=>obtain⟨t,rfl⟩:=r;rfl
 |str z=>obtain⟨t,rfl⟩:=r;rfl
 |_=>exact absurd (show false=true from f) aB
def B2n:∀{xs:List V} {us:List Value},U7 xs us ->xs.all B1q=true ->us.any (eqU x)=xs.any fun y=>eqV y x
 |_,_,.nil,_=>rfl
 | y::xs,u::us,.cons r t,f=>by
   rw[List.all_cons,cK] at f
   rw[List.any_cons,List.any_cons,G4q r f.1,B2n t f.2]
def A8f(d:Y3 x v)(e:B1q x=true):∀{xs:List V} {us:List Value},U7 xs us ->xs.all B1q=true ->∀u∈us,SeqAt.EqAt A s u v (eqU x u)
 |_,_,.nil,_=>fun u c=>by cases c
 | y::xs,u::us,.cons r t,f=>fun g c=>by
   rw[List.all_cons,cK] at f
   rcases bM.mp c with rfl|c
   . rw[G4q r f.1];exact J9h r d f.1 e
   . exact A8f d e t f.2 g c
def inV(x:V)(xs:List V):Bool:=xs.any fun y=>eqV y x
inductive rIn(K:W.Frag)(c:Bool)(x y:V)(H:Hp)(Q:VK):Prop
 |mk(p xs)(_:y= .ref p)(_:SqL K H p xs\/SqT K H p xs)(_:B1q x=true)(_:xs.all B1q=true)(_:Q (.bl (if c then !inV x xs else inV x xs)) H)
def A1c:OpR X (compareOp .In) (rIn X.K false):=by
 intro g s l H x y v u Q I f j h
 obtain⟨p,xs,rfl,d,i,fs,q⟩:=h
 cases j
 rcases d with d|d
 . obtain⟨c,r,pl,k⟩:=I.list d
   refine SeqAt.in_listAt (eqU x) pl.isList (fun w e=>A8f f i r fs w (by simpa using e)) ⟨.bl _,H,I,rfl,?_⟩
   rw[show c.toArray.any (eqU x)=c.any (eqU x) by simp,B2n r fs]
   exact q
 obtain⟨c,r,pl,k⟩:=I.tuple d
 refine SeqAt.in_tupleAt (eqU x) pl (fun w e=>A8f f i r fs w (by simpa using e)) ⟨.bl _,H,I,rfl,?_⟩
 rw[show c.toArray.any (eqU x)=c.any (eqU x) by simp,B2n r fs]
 exact q
def B2x:OpR X (compareOp .NotIn) (rIn X.K true):=by
 intro g s l H x y v u Q I f j h
 obtain⟨p,xs,rfl,d,i,fs,q⟩:=h
 cases j
 rcases d with d|d
 . obtain⟨c,r,pl,k⟩:=I.list d
   refine SeqAt.notIn_listAt (eqU x) pl.isList (fun w e=>A8f f i r fs w (by simpa using e)) ⟨.bl _,H,I,rfl,?_⟩
   rw[show c.toArray.any (eqU x)=c.any (eqU x) by simp,B2n r fs]
   exact q
 obtain⟨c,r,pl,k⟩:=I.tuple d
 refine SeqAt.notIn_tupleAt (eqU x) pl (fun w e=>A8f f i r fs w (by simpa using e)) ⟨.bl _,H,I,rfl,?_⟩
 rw[show c.toArray.any (eqU x)=c.any (eqU x) by simp,B2n r fs]
 exact q
def A0h:A6j X (.builtin "len") (fun xs H Q=>∃p ys,xs=[.ref p]/\(SqL X.K H p ys\/SqT X.K H p ys)/\Q (.int ys.length) H):=by
 intro g s k H xs us Q I r h
 obtain⟨p,ys,rfl,d,q⟩:=h
 obtain⟨u,rfl,i⟩:=B5f r
 cases i
 have l:=B4a
 rcases d with d|d
 . obtain⟨f,e,pl,j⟩:=I.list d
   have c:=e.length
   exact Calls.call_len_list pl.isList (by simp only[bG]<;>lia) ⟨.int ys.length,H,I.tok _,⟨s.toks+1,by rw[bG,c]⟩,q⟩
 obtain⟨f,e,pl,j⟩:=I.tuple d
 have c:=e.length
 exact len_tuple pl (by simp only[bG]<;>lia) ⟨.int ys.length,H,I.tok _,⟨s.toks+1,by rw[bG,c]⟩,q⟩
def A0m:A6j X (.builtin "len") (fun xs H Q=>∃z,xs=[.str z]/\z.length<=sizeLine/\Q (.int z.length) H):=by
 intro c s d H xs us Q I r h
 obtain⟨z,rfl,e,q⟩:=h
 obtain⟨u,rfl,t,rfl⟩:=B5f r
 have f:=B4a
 exact len_str (by lia) ⟨.int z.length,H,I.tok _,⟨_,rfl⟩,q⟩
def A4p:A6j X (.type "list") (fun xs H Q=>∃p ys,xs=[.ref p]/\(SqL X.K H p ys\/SqT X.K H p ys)/\∀l,H l=none ->Q (.ref l) (upd H l (.lst ys))):=by
 intro g s x H xs us Q I r h
 obtain⟨p,ys,rfl,k,q⟩:=h
 obtain⟨u,rfl,y⟩:=B5f r
 cases y
 have fin:∀(c:List Value),U7 ys c ->ys.length<=sizeLine ->∀(h':Heap) (f:Nat),(∀b w,s.heap.get? b=some w ->h'.get? b=some w) ->
     h'.get? s.heap.objs.size=some {cls:= .type "list",dict:=none,data:= .seq c.toArray f,slots:= #[]} ->EP X g x Q (.ref s.heap.objs.size) {s with heap:=h'}:=fun c d j h' f i e=>
   ⟨.ref s.heap.objs.size,_,I.laid (t':=s.toks) i (aO _) (show A1g X.prog X.w _ h' _ (.lst ys) from⟨j,c,f,d,e⟩),rfl,q _ (I.hok.fresh (aO _))⟩
 rcases k with k|k
 . obtain⟨c,d,pl,j⟩:=I.list k
   have m:=d.length
   obtain⟨o,ho,v,n,t⟩:=pl.isList
   exact call_list_seq p (.inl rfl) ho v t (fun h' f i e=>fin c d j h' f i e) (by simp only[bG]<;>lia)
 obtain⟨c,d,pl,j⟩:=I.tuple k
 have m:=d.length
 obtain⟨o,ho,v,n,t⟩:=pl
 exact call_list_seq p (.inr rfl) ho v t (fun h' f i e=>fin c d j h' f i e) (by simp only[bG]<;>lia)
def tyV(K:W.Frag)(T:String)(x:V)(H:Hp):Prop:=match x with
 | .str _=>T="str"
 | .int _=>T="int"
 | .ref p=>(T="list"/\∃xs,SqL K H p xs)\/(T="tuple"/\∃o,K.lookup p=some o/\o.cls= .type "tuple"/\o.dict=none)\/
     (T="dict"/\((∃kvs,H p=some (.dK kvs))\/∃kvs,H p=some (.dT kvs)))\/(T="set"/\∃S n,H p=some (.set S n))
 |_=>False
def G2d{s:Shared}(I:Inv X h q H s)(r:Y3 x v)(ty:tyV X.K T x H):
   s.TypeIs v T/\∀a,v= .ref a ->∃j,s.heap.get? a=some j/\j.dict=none:=by
 cases x with
 | str z=>
   obtain⟨t,rfl⟩:=r
   cases(show T="str" from ty)
   exact⟨iG s z t,fun _ e=>nomatch e⟩
 | int i=>
   obtain⟨t,rfl⟩:=r
   cases(show T="int" from ty)
   exact⟨typeIs_int s i t,fun _ e=>nomatch e⟩
 | ref p =>
   cases r
   rcases ty with⟨rfl,xs,l⟩|⟨rfl,o,d,m,f⟩|⟨rfl,d⟩|⟨rfl,S,n,d⟩
   . obtain⟨k,_,pl,_⟩:=I.list l
     refine⟨pl.isList.typeIs,fun a e=>?_⟩
     cases e
     obtain⟨o,n,e,c,f,_⟩:=pl
     exact⟨o,e,f⟩
   . refine⟨⟨o,I.kIn p o d,m⟩,fun a e=>?_⟩
     cases e
     exact⟨o,I.kIn _ o d,f⟩
   . have z:∃o,s.heap.get? p=some o/\o.ExactDict:=by
       rcases d with⟨kvs,d⟩|⟨kvs,d⟩
       . obtain⟨_,_,_,_,o,_,_,e,ex,_⟩:=I.hok p _ d
         exact⟨o,e,ex⟩
       . obtain⟨_,_,_,_,o,_,_,e,ex,_⟩:=I.hok p _ d
         exact⟨o,e,ex⟩
     obtain⟨o,e,ex⟩:=z
     refine⟨⟨o,e,ex.1⟩,fun a g=>?_⟩
     cases g
     exact⟨o,e,ex.2.1⟩
   . obtain⟨o,_,_,_,e,ex,_⟩:=I.hok p _ d
     refine⟨⟨o,e,ex.1⟩,fun a g=>?_⟩
     cases g
     exact⟨o,e,ex.2.1⟩
 |_=>exact False.elim ty
def V2a(K:W.Frag)(T:String)(r:V ->List V ->Hp ->VK ->Prop)(to:TE):TE:=fun d H Q=>to d H fun x c=>tyV K T x c/\r x [] c Q
def tBM(K:W.Frag)(T:String)(r:V ->List V ->Hp ->VK ->Prop)(to:TE)(t:TA):TE:=fun c H Q=>to c H fun x d=>tyV K T x d/\t c d fun xs e=>r x xs e Q
variable{o e:Expr}{es:List Expr}{to:TE}{t:TA}{name:Str}{apos cpos:Pos}{T id:String}{r:V ->List V ->Hp ->VK ->Prop}
def C9e(p:PlainAttrs T)(slot:Slot T name id)(g:typeOf (.builtin id)=pure (.type "method_descriptor"))(q:MtR X id r)(ho:PE X o to)(f:attributeBase o name X.env (eval o X.env)=eval o X.env:=by rfl)(d:(apos.endLine==cpos.line)=true:=by rfl):PE X (.Call (.Attribute o name apos) [] [] cpos) (V2a X.K T r to):=by
 intro c s j H Q I h
 refine wpAny_Call_method0_late f d (thn (ho c s j H _ I h) fun v m i=>?_)
 obtain⟨x,y,l,k,ty,n⟩:=i
 obtain⟨w,u⟩:=G2d l k ty
 exact⟨T,id,p,slot,g,w,u,iK rfl (PySem.evalArgs_none (q c m j y x [] v [] Q l k .nil n))⟩
def A1x(z:PlainAttrs T)(slot:Slot T name id)(k:typeOf (.builtin id)=pure (.type "method_descriptor"))(B:MtR X id r)(ho:PE X o to)(C:PA X (e::es) t)(g:attributeBase o name X.env (eval o X.env)=eval o X.env:=by rfl)(i:((backTo cpos (starEach (e::es) X.env)).all (fun x=> !x.1)&&(backToKw cpos (keywordEach [] X.env)).all (fun x=>x.1.isSome)
     &&decide ((e::es).length+([]:List Keyword).length+(if([]:List Keyword).isEmpty then 0 else 1)<30))=true:=by rfl)(f:(apos.endLine==cpos.line)=true:=by rfl)(A:starEach (e::es) X.env=(false,eval e X.env)::starEach es X.env:=by rfl)(d:(backTo cpos (starEach es X.env)).any (·.1)=false:=by rfl):
   PE X (.Call (.Attribute o name apos) (e::es) [] cpos) (tBM X.K T r to t):=by
 intro c s j H Q I h
 refine wpAny_Call_method_late g i f rfl (thn (ho c s j H _ I h) fun v q l=>?_)
 obtain⟨x,J,p,m,ty,y⟩:=l
 obtain⟨E,D⟩:=G2d p m ty
 refine⟨T,id,z,slot,k,E,D,?_⟩
 have n:=C cpos c q j J _ p y
 rw[A] at n ⊢
 refine iK (by show(false||(backTo cpos (starEach es X.env)).any (·.1))=false;rw[d]<;>rfl) (gX ?_)
 exact thn n fun us s2 ⟨vs,G,F,u,w⟩=>B c s2 j G x vs v us Q F m u w
end
def MtM(X:Cx)(id:String)(r:V ->List V ->Hp ->VK ->Prop):Prop:=
 ∀ (a:List (Addr×Obj)) (s:Shared) (b:St) (H:Hp) (x:V) (xs:List V) (v:Value) (us:List Value) (Q:VK),Inv X a b H s ->Y3 x v ->U7 xs us ->r x xs H Q ->
   wpAny (model X.prog X.w) X.A (call (.builtin id) (v::us)) (EP X a b Q) X.xe s
def U7.one(h:U7 [x] us):∃u,us=[u]/\Y3 x u:=by
 cases h with
 |cons r t=>cases t;exact⟨_,rfl,r⟩
def U7.two(h:U7 [x,y] us):∃u v,us=[u,v]/\Y3 x u/\Y3 y v:=by
 cases h with
 | cons r t=>
   cases t with
   |cons q z=>cases z;exact⟨_,_,rfl,r,q⟩
def U7.zero:∀{us:List Value},U7 [] us ->us=[]
 |_,.nil=>rfl
def U7.reverse{xs:List V}{us:List Value}(h:U7 xs us):U7 xs.reverse us.reverse:=by
 induction h with
 |nil=>exact .nil
 |cons r t a=>rw[List.reverse_cons,List.reverse_cons];exact U7.append a (.cons r .nil)
section
variable{X:Cx}{pins:List (Addr×Obj)}{σ:St}{H:Hp}{s:Shared}{l b:Addr}{xs ys zs:List V}
def Inv.lset{a its':List Value}{n:Nat}{f:Array Value ->Array Value}{t':Nat}(I:Inv X pins σ H s)(j:H l=some (.lst xs))(e:s.heap.get? l=some {cls:= .type "list",data:= .seq a.toArray n})(h:f a.toArray=its'.toArray)(d:U7 ys its')(c:ys.length<=sizeLine):
   Inv X pins σ (upd H l (.lst ys)) {s with heap:=s.heap.update l (Obj.mapSeq f),toks:=t'}:=by
 have q:=IsL.update e f
 rw[h] at q
 refine I.write (x:=l) (e:=l) (by rw[j];exact trivial) (.inl rfl) (fun b' u i g=>(eJ s.heap (Obj.mapSeq f) (eU i)).trans g) ⟨_,q⟩ ?_
 exact⟨c,its',_,d,q⟩
def Inv.lnew{a:List Value}{t':Nat}(I:Inv X pins σ H s)(d:U7 ys a)(c:ys.length<=sizeLine):
   Inv X pins σ (upd H s.heap.objs.size (.lst ys)) {s with heap:=s.heap.push {cls:= .type "list",data:= .seq a.toArray},toks:=t'}:=
 I.laid (fun _ _ q=>aF _ q) (aO _) ⟨c,a,0,d,bV _ rfl⟩
def Inv.fresh(I:Inv X pins σ H s):H s.heap.objs.size=none:=I.hok.fresh (aO _)
def Inv.lstM(I:Inv X pins σ H s)(c:H l=some (.lst xs)):xs.length<=sizeLine/\∃(a:List Value) (n:Nat),U7 xs a/\xs.length=a.length/\s.heap.get? l=some {cls:= .type "list",data:= .seq a.toArray n}:=by
 obtain⟨z,a,n,r,e⟩:=I.hok l _ c
 exact⟨z,a,n,r,r.length,e⟩
end
section
variable{X:Cx}
inductive J6d(x:V)(vs:List V)(H:Hp)(Q:VK):Prop
 |mk(l xs y)(_:x= .ref l)(_:vs=[y])(_:H l=some (.lst xs))(_:xs.length<sizeLine)(_:Q .non (upd H l (.lst (xs++ [y]))))
def B3t:MtM X "list.append" J6d:=by
 intro b s i H x vs v us Q I d f h
 obtain⟨l,xs,y,rfl,rfl,c,j,q⟩:=h
 cases d
 obtain⟨u,rfl,g⟩:=f.one
 obtain⟨z,a,n,r,k,e⟩:=I.lstM c
 refine jB F.slot_list_append ⟨_,e,rfl⟩ F.entry_list_append (F.args_list_append_2 _ _) (PySem.list_append l a.toArray n u (by rw[bG];lia)) ⟨e,?_⟩
 refine⟨.non,_,I.lset (its':=a++ [u]) c e (by simp) (r.append (.cons g .nil)) ?_,rfl,q⟩
 rw[aG,List.length_singleton]
 lia
inductive U1q(x:V)(vs:List V)(H:Hp)(Q:VK):Prop
 |mk(l xs)(_:x= .ref l)(_:vs=[])(_:H l=some (.lst xs))(_:Q .non (upd H l (.lst [])))
def G2p:MtM X "list.clear" U1q:=by
 intro c s i H x vs v us Q I f g h
 obtain⟨l,xs,rfl,rfl,d,q⟩:=h
 cases f
 have b:=g.zero
 subst b
 obtain⟨z,a,n,r,j,e⟩:=I.lstM d
 refine jB F.slot_list_clear ⟨_,e,rfl⟩ F.entry_list_clear (F.args_list_clear_1 _) (AutoSeq1.list_clear_list_0 l a.toArray n (by rw[bG];lia)) ⟨e,?_⟩
 exact⟨.non,_,I.lset (its':=[]) (ys:=[]) d e rfl .nil (bP _),rfl,q⟩
inductive V4b(x y:V)(H:Hp)(Q:VK):Prop
 |mk(l b xs zs)(_:x= .ref l)(_:y= .ref b)(_:H l=some (.lst xs))(_:H b=some (.lst zs))(_:xs.length+zs.length<=sizeLine)(_:∀p,H p=none ->Q (.ref p) (upd H p (.lst (xs++zs))))
def A8n:OpR X (binaryOp .Add) V4b:=by
 intro d s t H x y v u Q I g f h
 obtain⟨l,b,xs,zs,rfl,rfl,k,m,B,q⟩:=h
 cases g
 cases f
 obtain⟨z,c,n,r,C,e⟩:=I.lstM k
 obtain⟨w,a,A,i,j,p⟩:=I.lstM m
 refine PySem.P.add_list e p ?_ (by rw[bG,bG];lia)
 have o:c.toArray++a.toArray=(c++a).toArray:=by simp
 rw[o]
 exact⟨.ref _,_,I.lnew (t':=s.toks) (r.append i) (by rw[aG];lia),rfl,q _ I.fresh⟩
end
section
variable{prog:Program}{w:World}{A:Around}{E:Value ->Shared ->Prop}{s:Shared}
end
section
variable{X:Cx}
end
end L2
namespace Att
open PySem PySem.W PySem.Calls PyProof.Rows
def B5x:∀(ns:List Int) (vs:List Value),WellAll P h vs (ns.map WData.int) ->IntsAre vs ns:=by
 intro ns
 induction ns with
 | nil=>
   intro vs w
   rw[List.map_nil] at w
   cases w
   exact .nil
 | cons n ns c=>
   intro vs w
   rw[cX] at w
   cases w with
   | cons a b=>
     cases a
     exact .cons _ _ (c _ b)
def D8w{l:OpenLaw}{n:Nat}(s:l.most=some n){h:Heap}(b:l.row.toRowW.claim.pre args=true)(i:WellAll P h vals args):
   ∃a vs ns,vals=[Value.ref a]/\args=[WData.list (ns.map WData.int)]/\h.get? a=some {cls:= .type "list",data:= .seq vs.toArray}/\IntsAre vs ns/\ns.length<=n:=by
 have j:WShape.hasAll [] args [.list .int]=true:=(pre_splitW b).1
 have k:l.pre.holds [] {args:=args}=true:=(pre_splitW b).2
 obtain⟨d,r,rfl,v,u⟩:=hasAllW_cons j
 obtain rfl:=hasAllW_nil u
 obtain⟨xs,rfl,t⟩:=hasW_list v
 obtain⟨ns,rfl⟩:=items_int t
 have c:ns.length<=n:=by
   unfold OpenLaw.pre at k
   have g:(WTm.not (.lt (.lit (.int (n:Int))) (.len (.arg 0)))).holds [] {args:=[.list (ns.map .int)]}=true:=by
     have g:=(holds_andW k).1
     rw[s] at g
     exact g
   have f:=condW_of g (w_not (w_lt w_lit (w_len_list (w_arg rfl))))
   rw[aP] at f
   refine Nat.le_of_not_lt fun q=>?_
   have p:(n:Int)<((ns.length:Nat):Int):=by lia
   first
     |(rw[aT p] at f;exact absurd f (by decide))
     |(simp at f;lia)
 cases i with
 | cons o m=>
   cases m
   cases o with
   |list ho e=>exact⟨_,_,ns,rfl,rfl,ho,B5x ns _ e,c⟩
def D5y(l:OpenLaw)(args:List WData):l.row.toRowW.claim.post args (.bool true) args=true:=
 postW_of (r:=l.row.toRowW) (X:=(true==true))
   (show WShape.has [] (.bool true) .bool=true by first|rfl|decide|simp[WShape.has,WShape.arms,WShape.armsAll])
   (show(WTm.eq .res (.lit (.bool true))).value [] {args:=args,res:=some (.bool true),after:=args}=some (.bool (true==true)) from w_eq_bool (w_res rfl) w_lit) rfl
def attach_call{l:OpenLaw}{n:Nat}{B:World ->Heap ->Prop}{d:DefRec}(E:l.most=some n)(x:d.params.defaults=[])(call:∀(w:World) (s₀ b:Shared) (Y t:Str ->Option Value) (k:Addr) (o:Obj) (s p g:Value) (a:Addr) (vs:List Value) (ns:List Int),
     Ground q c [] P w s₀ Y t b.heap ->B w b.heap ->
     b.heap.get? k=some o ->o.data= .func (docDef d.name d.params d.body d.scope s p g) ->b.heap.CodeRec p d.name ->Y d.name=some (.ref k) ->
     b.heap.get? a=some {cls:= .type "list",data:= .seq vs.toArray} ->IntsAre vs ns ->ns.length<=n ->b.gens= #[] ->
     codeAny (model l.prog w) callerA (.call (.ref k) ⟨[.ref a],[]⟩) (fun r m=>r= .ok (.ret (.bool true))/\OldK b.heap m.heap/\m.os=b.os/\AllBare m.gens) b):
   WalkO q c P B l.row.toRowW d [] (fun f vs=>PySem.call f vs):=by
 intro w s₀ b Y t G X k o s p g O kV ho J y A v I args vals Q h z C u H
 obtain rfl:O= .none:=Dflts.none A x
 obtain rfl:kV= .none:=Dflts.noKw A
 obtain⟨a,vs,ns,rfl,rfl,i,e,j⟩:=D8w E h u
 refine enter_call (gF (call w s₀ b Y t k o s p g a vs ns G X ho (fd_plain J) y v i e j I) fun r m D=>?_)
 obtain⟨rfl,N,M,L⟩:=D
 exact⟨.inl ⟨.bool true,.bool true,[],rfl,fun _=>rfl,.bool true,D5y l _,fun _=>⟨List.Pairwise.nil,fun _ F=>(nomatch F)⟩⟩,N,M,L⟩
section
variable{prog:Program}{w:World}{A:Around}{E:Value ->Shared ->Prop}{s:Shared}{K:Frag}
end
end Att
namespace L2
open PySem PySem.Spec PyProof.Rows
def C0s:∀{vs:List Value} {ns:List Int},IntsAre vs ns ->U7 (ns.map V.int) vs
 |_,_,.nil=> .nil
 |_,_,.cons n t h=> .cons ⟨t,rfl⟩ (C0s h)
def U0n(H:Hp):Prop:=∀b,H b=none\/∃o xs,H b=some (.frz o (.lst xs))
def G2k{K:PySem.W.Frag}{Y J:Str ->Option Value}{k:Nat}{c:Shared}{vs:List Value}{ns:List Int}(KX:K.In c.heap)(A:c.heap.Ns mainGlobals Y)(f:c.heap.Ns builtinsNs J)(N:∀x:Str,x≠"__name__" ->J x=bootBuiltins x)(B:c.heap.NoLimit)(hg:c.gens= #[])(G:c.heap.get? a=some {cls:= .type "list",data:= .seq vs.toArray})(U:IntsAre vs ns)(T:ns.length<=sizeLine)(hr:A1e k callerA)(F:∀Z:Heap,K.In Z ->Z.Ns mainGlobals Y ->B0 P w K Y Z CX k fa fd [x] sp)(j:∀(s:Shared) (u:Value),BindsTo s fd ⟨[u],[]⟩ [(x,u)])(L:∀H:Hp,U0n H ->SqL K H a (ns.map V.int) ->sp [.ref a] H (fun v _=>v= .bl true) fun _ _ _=>False)(O:∀H e g,CX [] H c (fun _ _ _=>False) e g ->False):
   codeAny (model P w) callerA (.call (.ref fa) ⟨[.ref a],[]⟩) (fun r g=>r= .ok (.ret (.bool true))/\OldK c.heap g.heap/\g.os=c.os/\AllBare g.gens) c:=by
 have R:=C0s U
 have p:=U.length
 have core :∀H:Hp,U0n H ->SqL K H a (ns.map V.int) ->HOk P w H c.heap ->(∀b,H b≠none ->b=a) ->(H a≠none ->K.lookup a=none) ->
     codeAny (model P w) callerA (.call (.ref fa) ⟨[.ref a],[]⟩) (fun r g=>r= .ok (.ret (.bool true))/\OldK c.heap g.heap/\g.os=c.os/\AllBare g.gens) c:=by
   intro H W hS y X hK
   have base_of:∀{b:Addr} {o:Obj},c.heap.get? b=some o ->H b=none ->(C3a c.heap H).get? b=some o:=fun e n=>G1a e n
   have I:∀{b:Addr} {o:Obj} {D:Array DictEntry} {E:Nat},c.heap.get? b=some o ->o.data= .dict D E ->H b=none:=fun{b o D E} e d=>by
     cases q:H b with
     |none=>rfl
     | some u=>
       have Q:b=a:=X b (by rw[q];simp)
       subst Q
       rw[G] at e;cases e
       have d':Data.seq vs.toArray _=Data.dict D E:=d
       cases d'
   have i:∀{b:Addr} {m:Str ->Option Value},c.heap.Ns b m ->(C3a c.heap H).Ns b m:=fun{b m} ⟨o,D,E,e,d,r⟩=>⟨o,D,E,base_of e (I e d),d,r⟩
   have C:K.In (C3a c.heap H):=fun b o e=>base_of (KX b o e) (by
     cases q:H b with
     |none=>rfl
     | some u=>
       have Q:b=a:=X b (by rw[q];simp)
       subst Q
       rw[hK (by rw[q];simp)] at e;cases e)
   have hM:Mod K Y (C3a c.heap H):=⟨C,i A,⟨J,i f,N⟩,let⟨mc,h1,h2⟩:=B;⟨mc,i h1,h2⟩⟩
   have e0:D2b P w K Y (C3a c.heap H) callerA [] c H:=⟨rfl,hM,fun b o e=>J4w e,Nat.le_of_eq (D6s _ _),trivial,fun b f=>absurd (show b∈([]:List Addr) from f) (by simp),y,.of_eq hg⟩
   refine gF ((F _ C (i A)).run callerA [] c H ⟨[.ref a],[]⟩ [.ref a] [.ref a] _ _ hr e0 (j c (.ref a)) (.cons rfl .nil) (L H W hS)) fun r g h=>?_
   cases r with
   |error e=>exact(O H e g h).elim
   | ok fl =>
     cases fl with
     |next=>exact False.elim h
     |brk=>exact False.elim h
     |cont=>exact False.elim h
     | ret u=>
       obtain⟨v,H',os,bare,un,t,r',q⟩:=h
       have q':v= .bl true:=q
       subst q'
       obtain rfl:u=Value.bool true:=r'
       refine⟨rfl,OldK.of_keep fun b o e=>?_,os,bare⟩
       cases q:H b with
       |none=>exact un.keep b o e q (by intro z;exact absurd (show b∈([]:List Addr) from z) (by simp)) (by simp)
       | some u=>
         rcases W b with z|⟨ob,xs,z⟩
         . rw[q] at z;cases z
         . have z2:=un.frzs b ob _ z
           obtain⟨e1,_⟩:=y b _ z
           obtain⟨e2,_⟩:=t b _ z2
           rw[e] at e1;cases e1
           exact e2
 cases M:K.lookup a with
 | some o=>
   have e:=KX a o M
   rw[G] at e
   cases e
   refine core (fun _=>none) (fun _=> .inl rfl) (.inr ⟨_,vs.toArray,_,M,rfl,rfl,rfl,by rw[bG,p];exact T,by simpa using R⟩) (fun b u z=>by have l:(none:Option HO)=some u:=z;cases l) (fun b z=>absurd rfl z) fun z=>absurd rfl z
 | none=>
   refine core (fun b=>if b=a then some (.frz {cls:= .type "list",data:= .seq vs.toArray} (.lst (ns.map V.int))) else none) (fun b=>?_) (.inl (.inr ⟨{cls:= .type "list",data:= .seq vs.toArray},aC rfl⟩)) (fun b u z=>?_) (fun b z=>?_) fun _=>M
   . by_cases f:b=a
     . exact .inr ⟨_,_,aC f⟩
     . exact .inl (aA f)
   . by_cases f:b=a
     . have l:=(aC f).symm.trans z
       cases l
       subst f
       exact⟨G,by rw[aP];exact T,vs,_,R,G⟩
     . have l:=(aA f).symm.trans z
       cases l
   . by_cases f:b=a
     . exact f
     . exact absurd (aA f) z
def walk_of{l:PySem.W.OpenLaw}{n k:Nat}{B:World ->Heap ->Prop}{d:DefRec}{K:Params ->PySem.W.Frag}{CX:World ->CXT}{sp:World ->Sp}(E:l.most=some n)(t:n<=sizeLine)(z:d.params.defaults=[])(D:A1e k callerA)(M:∀(w:World) (h:Heap),B w h ->(K w.params).In h)(F:∀(w:World) (Y:Str ->Option Value) (j:Addr) (h:Heap),(K w.params).In h ->h.Ns mainGlobals Y ->Y d.name=some (.ref j) ->
     ∃ fd:FuncData,(∀(s:Shared) (u:Value),BindsTo s fd ⟨[u],[]⟩ [(x,u)])/\
       ∀Z:Heap,(K w.params).In Z ->Z.Ns mainGlobals Y ->B0 l.prog w (K w.params) Y Z (CX w) k j fd [x] (sp w))(r:∀(w:World) (H:Hp) (a:Addr) (ns:List Int),ns.length<=n ->U0n H ->SqL (K w.params) H a (ns.map V.int) ->sp w [.ref a] H (fun v _=>v= .bl true) fun _ _ _=>False)(A:∀(w:World) (H:Hp) (s:Shared) (e:Value) (m:Shared),CX w [] H s (fun _ _ _=>False) e m ->False):
   PySem.W.WalkO q p XP B l.row.toRowW d [] (fun f vs=>PySem.call f vs):=by
 refine Att.attach_call E z fun w s₀ g Y T j o R W Q a vs ns G X ho U J y i c b I=>?_
 have C:=M w _ X
 obtain⟨fd,L,P⟩:=F w Y j _ C G.T.g y
 exact G2k C G.T.g G.T.b G.T.builtins G.T.nolimit I i c (bS b t) D P L (fun H O N=>r w H a ns b O N) fun H e m=>A w H g e m
def U2(s:Stmt)(j:Nat):Stmt:=match s with
 | .ClassDef _ _ _ a _ _ _ _ _ _ _=>a.getD j (.Pass ⟨0,0,0,0⟩)
 |_=> .Pass ⟨0,0,0,0⟩
def U9(s:Stmt):Arguments:=match s with
 | .FunctionDef _ a _ _ _ _ _ _ _ _=>a
 |_=>{posonlyargs:=[],args:=[],vararg:=none,kwonlyargs:=[],kw_defaults:=[],kwarg:=none,defaults:=[]}
def U4(s:Stmt):List Stmt:=match s with
 | .FunctionDef _ _ b _ _ _ _ _ _ _=>b
 |_=>[]
def A5(s:Stmt):Scope:=match s with
 | .FunctionDef _ _ _ _ _ _ a _ _ _=>a
 |_=>{kind:= .function,names:=[],isGenerator:=false,isCoroutine:=false}
abbrev CX0:CXT:=fun _ _ _ _ _ _=>False
abbrev E0:XK:=fun _ _ _=>False
def G4g:D0g CX0 X E0:=fun _ _ _ _ _ _ _ h=>h.elim
structure Fun(K:W.Frag)(x qual:Str)(st:Stmt)(f:Addr)(fd:FuncData):Prop where
 ex:∃(oc:Value) (od:Option Addr) (kV doc pm:Value) (an:Option Addr) (cdv ct:Value) (osl:Array (Option Value)),
   fd=W.fnOf x qual (U9 st) (U4 st) (A5 st) .none kV doc pm an cdv ct/\K.lookup f=some ⟨oc,od,.func fd,osl⟩/\W.codeIn K cdv qual=true
 kp:W.keepIn K (.ref f)=true
section
variable{P:Program}{w:World}{K:PySem.W.Frag}{Y:Str ->Option Value}{Z:Heap}
def Fun.ok{st:Stmt}{N ps:List Str}{k:Nat}{sp:Sp}(F:Fun K x b st f fd)(S:B9 N ps (A5 st))(len:∀vs H Q E,sp vs H Q E ->vs.length=ps.length)(c:∀(a:Value) (A:Around) (outer:List Env) (s:Shared) (H:Hp) (vs:List V) (Q:VK) (E:XK),A1e k (A.deeper (envOfC b (A5 st) s.heap.objs.size f a)) ->sp vs H Q E ->
     ∃t,PSs (A1m CX0 P w K Y Z N b (A5 st) f a A outer s H E).nox (U4 st) t/\t {nx:=fun _ m=>Q .non m,rt:=Q} (A7w N vs) H):B0 P w K Y Z CX0 (k+1) f fd ps sp:=by
 obtain⟨p,o,kV,l,n,r,a,ct,g,rfl,i,e⟩:=F.ex
 refine G1v i e S len fun A outer s H vs Q E j d=>?_
 obtain⟨t,h,q⟩:=c a A outer s H vs Q E j d
 exact⟨t,h.nox,q⟩
def Fun.binds{st:Stmt}{ps:List Str}(F:Fun K x c st f fd)(h:∀(kV a d:Value) (e:Option Addr) (b ct:Value) (us:List Value),us.length=ps.length ->bindArgs (W.fnOf x c (U9 st) (U4 st) (A5 st) .none kV a d e b ct) ⟨us,[]⟩=pure (ps.zip us)):Binds K fd ps []:=by
 obtain⟨k,j,kV,a,d,e,b,ct,g,rfl,l,i⟩:=F.ex
 exact .all (h kV a d e b ct)
def A4t{st:Stmt}{kV d e b ct:Value}(l:K.lookup f=some ⟨j,i,.func (W.fnOf x a (U9 st) (U4 st) (A5 st) .none kV d e h b ct),g⟩)(c:W.codeIn K b a=true)(k:W.keepIn K (.ref f)=true):Fun K x a st f (W.fnOf x a (U9 st) (U4 st) (A5 st) .none kV d e h b ct):=⟨⟨j,i,kV,d,e,h,b,ct,g,rfl,l,c⟩,k⟩
end
def A0u{n:Nat}(h:n<=1000):n<sizeLine:=aW h (by decide)
section
variable{X:Cx}
def pv(i:Nat)(d:X.N[i]?=some x:=by rfl)(b:Vis X.env.scope x:=by first|exact Or.inl rfl|exact Or.inr (Or.inl rfl)|exact Or.inr (Or.inr rfl))(c:(x==("__debug__":Str))=false:=by decide)(a:(x==("__classdict__":Str))=false:=by decide):PE X (.Name x pos) (U8g i):=U0r d b c a
end
def V4(h:B):if false=true then A else B:=by
 rw[aA aB]
 exact h
def Y9(h:A):if true=true then A else B:=by
 rw[aC rfl]
 exact h
def B0n[Decidable c](a:c)(h:B):if(!decide c)=true then A else B:=by
 rw[aT a]
 exact V4 h
def C9(H a:Hp):Prop:=∀b o,H b=some o ->a b=some o
def C9.refl(H:Hp):C9 H H:=fun _ _ h=>h
def C9.trans(a:C9 H e)(b:C9 e d):C9 H d:=fun c o h=>b c o (a c o h)
def C9.free{H a:Hp}(e:C9 H a)(h:a l=Option.none):H l=Option.none:=by
 cases q:H l with
 |none=>rfl
 | some o=>
   rw[e l o q] at h
   cases h
def C9.seq{K:W.Frag}(e:C9 H b)(h:SqL K H a xs):SqL K b a xs:=by
 rcases h with(h|⟨o,h⟩)|h
 . exact .inl (.inl (e _ _ h))
 . exact .inl (.inr ⟨o,e _ _ h⟩)
 exact .inr h
end L2
set_option maxHeartbeats 4000000
namespace L2
open PySem PySem.Spec PyProof.Rows
structure XT where
 t:Addr
 x:Value:= .none
 b:Bool:=false
instance:Coe Addr XT:=⟨fun t=>{t:=t}⟩
abbrev A1u(C:Value)(t:XT)(dd:Option Addr)(tb:Value):Obj:=
 {cls:=C,dict:=dd,data:= .fields #[.ref t.t,tb,t.x,.none,.bool t.b,.none]}
structure U9b(fs:List Addr)(h h':Heap)(a:Addr)(C:Value)(t:XT)(dd:Option Addr)(T:Addr)(fl:Value):Prop where
 keep:∀b o,b ∉ fs ->b≠a ->h.get? b=some o ->h'.get? b=some o
 slot:∀b o,b≠a ->h.get? b=some o ->∃sl,h'.get? b=some {o with slots:=sl}
 new:h.get? T=none
 ne:T≠a
 exc:h'.get? a=some (A1u C t dd (.ref T))
 tbk:∃oT ts,h'.get? T=some oT/\oT.data= .fields ts/\ts[3]?=some fl
section
variable{M:Model}{A:Around}{E:Value ->Shared ->Prop}{s:Shared}{Z:Heap}{env:Env}{outer:List Env}{L a:Addr}{t:XT}{C:Value}{dd:Option Addr}{tb:Value}{Q:Unit ->Shared ->Prop}
def J1g{b:Obj}{l:List Env}(e:s.heap.FunFrames Z l)(g:s.heap.get? a=some b)(f:b.data= .fields vs):a ∉ l.filterMap (·.frame):=by
 intro d
 obtain⟨_,o,ho,c⟩:=e.mem d
 rw[g] at ho
 cases ho
 exact c vs f
def D3r{v:Bool}(i:A.frames=some (env::outer))(l:s.heap.FunFrames Z (env::outer))(w:env.frame=some L)(n:s.heap.get? a=some (A1u C t dd tb))(h:∀h' T,U9b ((env::outer).filterMap (·.frame)) s.heap h' a C t dd T (rawInt L) ->Q () {s with heap:=h'}):
   wpAny M A (do
     let x<-frameOf env
     let pl<-entryPlaceOf L v
     let b<-EntryCells.newEntry m x .none (rawInt L) .none pl
     setField (.ref a) 1 b) Q E s:=by
 have u:=J1g l n rfl
 refine aE (wpAny_frameOf_fun i l w fun g d=>?_)
 refine aE (wpAny_entryPlaceOf fun pl hpl=>?_)
 unfold EntryCells.newEntry newFields
 refine aE (wpAny_newObj_type ?_ (hpl.sizeOk5 _ _ _ _ _))
 have q:g.get? a=some (A1u C t dd tb):=(d.2.1 a u).trans n
 have p:=fun(z:Obj)=>aF (h:=g) z q
 have k:g.objs.size≠a:=Nat.ne_of_gt (bA q)
 refine wpAny_setField (p _) rfl (by show 1<6;decide) (h _ g.objs.size ?_)
 have up:∀(z:Obj) (f:Obj ->Obj) b o,b≠a ->g.get? b=some o ->((g.push z).update a f).get? b=some o:=by
   intro z f b o j e
   rw[eJ _ _ (eU j)]
   exact aF _ e
 refine⟨fun b o j c e=>up _ _ b o c ((d.2.1 b j).trans e),fun b o c e=>?_,?_,k,?_,?_⟩
 . obtain⟨r,y⟩:=d.2.2 b o e
   exact⟨r,up _ _ b _ c y⟩
 . refine fG ?_
   rw[d.1]
   exact aO _
 . exact fD _ (p _) rfl
 refine⟨_,_,(eJ _ _ (eU k)).trans (bV _ rfl),rfl,?_⟩
 first
   |(simp;done)
   |(rcases hpl with rfl|⟨_,_,_,_,_,_,_,rfl⟩<;>simp)
def U7f(h:Heap)(a:Addr)(tb:Value):Prop:=tb= .none\/∃T c b d,tb= .ref T/\T≠a/\h.get? T=some c/\c.data= .fields b/\b[3]?=some d
def J9b(m:A.frames=some (env::outer))(F:s.heap.FunFrames Z (env::outer))(w:env.frame=some L)(y:s.heap.get? a=some (A1u C t dd tb))(I:U7f s.heap a tb)(u:∀T i g,tb= .ref T ->s.heap.get? T=some i ->i.data= .fields g ->g[3]?≠some (rawInt L))(h:∀h' T,(∀b o,b ∉ (env::outer).filterMap (·.frame) ->b≠a ->tb≠ .ref b ->s.heap.get? b=some o ->h'.get? b=some o) ->
     (∀b o,b≠a ->tb≠ .ref b ->s.heap.get? b=some o ->∃G,h'.get? b=some {o with slots:=G}) ->s.heap.get? T=none ->T≠a ->
     h'.get? a=some (A1u C t dd (.ref T)) ->(∃i g,h'.get? T=some i/\i.data= .fields g/\g[3]?=some (rawInt L)) ->Q () {s with heap:=h'}):
   wpAny M A (noteFrame (.ref a) env) Q E s:=by
 unfold noteFrame
 simp only[w]
 refine aE (jZ y rfl (x:=tb) rfl ?_)
 rcases I with rfl|⟨T,i,g,J,rfl,H,p,r,B⟩
 . rw[aA (by decide)]
   refine D3r m F w y fun h' T N=>?_
   exact h h' T (fun b o n c _ e=>N.keep b o n c e) (fun b o c _ e=>N.slot b o c e) N.new N.ne N.exc N.tbk
 rw[aC (show(Value.ref T !=Value.none)=true by simp)]
 refine aE (jZ p r B ?_)
 rw[aA (show¬((J==rawInt L)=true) from fun q=>u T i g rfl p r (by rw[B,gD.mp q]))]
 refine aE (wpAny_setField p r (jM.mp B).1 ?_)
 have d:∀(f:Obj ->Obj) b,b≠T ->(s.heap.update T f).get? b=s.heap.get? b:=fun f b n=>eJ _ _ (eU n)
 have k:∀b o,s.heap.get? b=some o ->(∀vs,o.data≠ .fields vs) ->b≠T:=by
   intro b o e v q
   rw[q,p] at e
   cases e
   exact v g r
 refine D3r (s:={s with heap:=_}) m (F.of_keeps fun b o e v=>⟨o,(d _ b (k b o e v)).trans e,rfl⟩) w ((d _ a (eU H)).trans y) fun h' D N=>?_
 have l:∀b,Value.ref T≠Value.ref b ->b≠T:=fun b q z=>q (by rw[z])
 refine h h' D (fun b o n c j e=>N.keep b o n c ((d _ b (l b j)).trans e)) (fun b o c j e=>N.slot b o c ((d _ b (l b j)).trans e)) ?_ N.ne N.exc N.tbk
 have nw:=N.new
 by_cases q:D=T
 . subst q
   have:=fD (Obj.mapFields (·.setIfInBounds 3 Value.none)) p (Obj.isFreed_of_fields (Obj.data_mapFields r _))
   rw[nw] at this
   cases this
 rw[d _ D q] at nw
 exact nw
def J5d{b:Obj}(d:env.frame=some L)(e:s.heap.get? a=some (A1u C t dd (.ref T)))(f:s.heap.get? T=some b)(i:b.data= .fields c)(g:c[3]?=some (rawInt L))(h:Q () s):
   wpAny M A (noteFrame (.ref a) env) Q E s:=by
 unfold noteFrame
 simp only[d]
 refine aE (jZ e rfl (x:= .ref T) rfl ?_)
 rw[aC (show(Value.ref T !=Value.none)=true by simp)]
 refine aE (jZ f i g ?_)
 rw[aC (show(rawInt L==rawInt L)=true by simp)]
 exact aR h
def J9d{i:Obj}{fr:Option Addr}(n:s.heap.get? a=some (A1u C t dd (.ref T)))(j:s.heap.get? T=some i)(k:i.data= .fields g)(p:g[3]?=some q)(h:∀h',(∀b o,b≠T ->s.heap.get? b=some o ->h'.get? b=some o) ->(∃d c,h'.get? T=some d/\d.data= .fields c/\c[3]?=some (fr.elim Value.none fun f=>rawInt f)) ->Q () {s with heap:=h'}):wpAny M A (setFlight (.ref a) fr) Q E s:=by
 have sz:3<g.size:=(jM.mp p).1
 unfold setFlight
 refine aE (jZ n rfl (x:= .ref T) rfl ?_)
 rw[aC (show(Value.ref T !=Value.none)=true by simp)]
 refine wpAny_setField j k sz (h _ (fun b o m e=>(eJ _ _ (eU m)).trans e) ?_)
 have l:=Obj.data_mapFields k (·.setIfInBounds 3 (fr.elim Value.none fun f=>rawInt f))
 exact⟨_,_,fD _ j (Obj.isFreed_of_fields l),l,by simp[sz]⟩
end
section
variable{prog:Program}{w:World}{A:Around}{E:Value ->Shared ->Prop}{s:Shared}
end
def A1g.there{h:Heap}(x:A1g P w H h a o):∃u,h.get? a=some u:=by
 cases o with
 |lst xs=>obtain⟨_,_,_,_,e⟩:=x;exact⟨_,e⟩
 |tup xs=>obtain⟨_,_,_,_,e,_⟩:=x;exact⟨_,e⟩
 |dK kvs=>obtain⟨_,_,_,_,o,_,_,e,_⟩:=x;exact⟨_,e⟩
 |dT kvs=>obtain⟨_,_,_,_,o,_,_,e,_⟩:=x;exact⟨_,e⟩
 |set S n=>obtain⟨o,_,_,_,e,_⟩:=x;exact⟨_,e⟩
 |ins C g fs=>obtain⟨_,_,_,e,_⟩:=x;exact⟨_,e⟩
 |own y=>obtain⟨_,e⟩:=x;exact⟨_,e⟩
 |xd fs=>obtain⟨_,⟨_,_,_,e,_⟩,_⟩:=x;exact⟨_,e⟩
 |rng lo d=>obtain⟨_,_,_,e⟩:=x;exact⟨_,e⟩
 |frz c u=>obtain⟨e,_⟩:=x;exact⟨_,e⟩
 |tbl ps=>exact⟨_,show h.get? a=some _ from x⟩
 |met f y=>exact⟨_,show h.get? a=some _ from x⟩
 |ext b=>obtain⟨_,e,_⟩:=x;exact e
def HOk.new{H:Hp}{h:Heap}(x:HOk P w H h)(e:h.get? a=none):H a=none:=by
 cases q:H a with
 |none=>rfl
 | some u=>
   obtain⟨o,z⟩:=(x a u q).there
   rw[e] at z
   cases z
structure Nw(X:Cx)(pins:List (Addr×Obj))(H:Hp)(b:Addr):Prop where
 un:H b=none
 loc:b≠X.env.locals
 fs:b ∉ X.fs
 old:X.s₀.heap.get? b=none
 cell:∀x c,X.env.cells.lookup x=some c ->c≠b
 pin:∀p∈X.pn++pins,p.1≠b
section
variable{X:Cx}{pins:List (Addr×Obj)}{σ:St}{H H':Hp}{s s':Shared}{a b:Addr}{t:XT}{C:Value}{dd:Option Addr}
def Inv.fsFree(I:Inv X pins σ H s):∀b∈X.fs,H b=none:=fun b c=>I.stkFree b (by
 rcases I.ok.stk with z|⟨z,d⟩
 . rw[z];exact c
 . rw[z]
   unfold frs
   rw[eY,d]
   exact aJ _ c)
def Inv.nw(I:Inv X pins σ H s)(d:X.ex=[])(e:s.heap.get? b=none)(f:H' b=none):Nw X pins H' b:=by
 refine⟨f,?_,?_,?_,?_,?_⟩
 . rintro rfl
   obtain⟨m,⟨o,_,_,ho,_⟩,_⟩:=I.loc
   rw[e] at ho
   cases ho
 . intro i
   obtain⟨_,o,ho,_⟩:=I.funs.mem i
   rw[e] at ho
   cases ho
 . cases q:X.s₀.heap.get? b with
   |none=>rfl
   | some o=>
     obtain⟨j,z⟩:=I.base.there b o q (by rw[d];simp)
     rw[e] at z
     cases z
 . rintro x c h rfl
   obtain⟨v,o,ho,_⟩:=I.cell x c h
   rw[e] at ho
   cases ho
 rintro p g rfl
 obtain⟨z,_⟩:=I.pin p g
 rw[e] at z
 cases z
def Inv.stepN{h':Heap}{ch:List Addr}(I:Inv X pins σ H s)(g:∀b∈ch,Nw X pins H b)(keep:∀b o,b≠X.env.locals ->b ∉ X.fs ->b ∉ ch ->s.heap.get? b=some o ->h'.get? b=some o)(slot:∀b o,b ∉ ch ->s.heap.get? b=some o ->∃D,h'.get? b=some {o with slots:=D}):Inv X pins σ H {s with heap:=h'}:=by
 have E:∀b o,X.s₀.heap.get? b=some o ->b≠X.env.locals:=fun b o e=>cA (aQ (bA e) I.ok.above)
 have j:∀b o,X.s₀.heap.get? b=some o ->b ∉ ch:=fun b o e f=>by
   have z:=(g b f).old
   rw[e] at z
   cases z
 have h:∀x c,X.env.cells.lookup x=some c ->∀v,s.heap.IsCell c v ->h'.IsCell c v:=fun x c e v ⟨o,ho,P⟩=>by
   have F:c ∉ ch:=fun z=>(g c z).cell x c e rfl
   obtain⟨D,q⟩:=slot c o F ho
   exact⟨_,q,P⟩
 refine⟨I.ok,I.os,I.bare,⟨fun b o e n f y=>?_,fun b o e n f y=>?_,I.base.free,fun b o e y=>?_,I.base.tups,I.base.frzs,I.base.tbls⟩,?_,fun x c e=>?_,I.free,I.freeC,fun p L=>?_,?_,I.len⟩
 . exact keep b o (E b o e) f (j b o e) (I.base.keep b o e n f y)
 . obtain⟨D,B⟩:=I.base.slot b o e n f y
   obtain⟨w,A⟩:=slot b _ (j b o e) B
   exact⟨w,A⟩
 . obtain⟨U,B⟩:=I.base.there b o e y
   obtain⟨w,A⟩:=slot b _ (j b o e) B
   exact⟨_,A⟩
 . obtain⟨m,N,O⟩:=I.loc
   refine⟨m,?_,fun i x v B A T=>?_⟩
   . obtain⟨o,Q,R,ho,r⟩:=N
     obtain⟨D,q⟩:=slot _ o (fun z=>(g _ z).loc rfl) ho
     exact⟨_,Q,R,q,r⟩
   . obtain⟨u,r,l⟩:=O i x v B A T
     refine⟨u,r,?_⟩
     rcases l with l|⟨k,c,e,z⟩
     . exact .inl l
     . exact .inr ⟨k,c,e,h x c e _ z⟩
 . obtain⟨v,z⟩:=I.cell x c e
   exact⟨v,h x c e v z⟩
 . obtain⟨e,n,J,G,d⟩:=I.pin p L
   exact⟨keep p.1 p.2 J G (fun z=>(g p.1 z).pin p L rfl) e,n,J,G,d⟩
 intro c o e
 have M:∀b,H b≠none ->∀u,s.heap.get? b=some u ->h'.get? b=some u:=fun b f u q=>
   keep b u (fun z=>f (by rw[z];exact I.free)) (fun z=>f (I.fsFree b z)) (fun z=>f (g b z).un) q
 refine(I.hok c o e).stay (fun b u f q=>M b ?_ u q) (fun _ q=>q) fun _ _ q=>q
 rcases f with rfl|f
 . rw[e];simp
 rw[f];simp
inductive Flt(X:Cx)(pins:List (Addr×Obj))(H:Hp)(s:Shared)(a:Addr)(C:Value)(t:XT)(dd:Option Addr):Prop
 |mk(_:Nw X pins H a) (c)(_:s.heap.get? a=some (A1u C t dd c))(_:U7f s.heap a c)(_:∀T,c= .ref T ->Nw X pins H T)
inductive B0t(X:Cx)(pins:List (Addr×Obj))(H:Hp)(s:Shared)(a:Addr)(C:Value)(t:XT)(dd:Option Addr)(e:Value):Prop
 |mk(_:Nw X pins H a) (T d c)(_:s.heap.get? a=some (A1u C t dd (.ref T)))(_:T≠a)(_:Nw X pins H T)(_:s.heap.get? T=some d)(_:d.data= .fields c)(_:c[3]?=some e)
structure U1v(X:Cx):Prop where
 ex:X.ex=[]
 st:X.stack=X.env::X.outer
 fr:X.env.frame=some X.env.locals
def B0t.flt(F:B0t X pins H s a C t dd i):Flt X pins H s a C t dd:=by
 obtain⟨n,T,d,c,e,f,g,j,k,h⟩:=F
 exact⟨n,_,e,.inr ⟨T,d,c,i,rfl,f,j,k,h⟩,fun l z=>by cases z;exact g⟩
def D0a:Value ->List Addr
 | .ref z=>[z]
 |_=>[]
def C6j{Q:Unit ->Shared ->Prop}(B:U1v X)(I:Inv X pins σ H s)(F:Flt X pins H s a C t dd)(k:∀s',Inv X pins σ H s' ->B0t X pins H s' a C t dd (rawInt X.env.locals) ->Q () s'):wpAny M X.A (noteFrame (.ref a) X.env) Q E s:=by
 obtain⟨l,h,e,n,m⟩:=F
 have i:=I.ok.frames
 rw[B.st] at i
 have p:=I.stack
 rw[B.st] at p
 by_cases j:∃T d c,h= .ref T/\s.heap.get? T=some d/\d.data= .fields c/\c[3]?=some (rawInt X.env.locals)
 . obtain⟨T,d,c,rfl,r,u,f⟩:=j
   rcases n with z|⟨U,_,_,_,z,J,_⟩
   . cases z
   . cases z
     exact J5d B.fr e r u f (k s I ⟨l,T,d,c,e,J,m T rfl,r,u,f⟩)
 refine J9b i p B.fr e n (fun T d c y x w v=>j ⟨T,d,c,y,x,w,v⟩) fun h' T k1 k2 k3 N k5 L=>?_
 have ch:∀b,b ∉ a::D0a h ->b≠a/\h≠ .ref b:=by
   intro b g
   refine⟨fun z=>g (by rw[z];exact aH),fun z=>g ?_⟩
   rw[z]
   exact aJ _ (bE.mpr rfl)
 have R:Inv X pins σ H {s with heap:=h'}:=by
   refine I.stepN (ch:=a::D0a h) (fun b g=>?_) (fun b o P O f q=>k1 b o ?_ (ch b f).1 (ch b f).2 q) (fun b o f q=>k2 b o (ch b f).1 (ch b f).2 q)
   . rcases bM.mp g with rfl|g
     . exact l
     . cases h<;>simp[D0a] at g
       subst g
       exact m _ rfl
   . intro z
     rw[eY,B.fr] at z
     rcases bM.mp z with z|z
     . exact P z
     . exact O z
 obtain⟨d,c,G,D,A⟩:=L
 exact k _ R ⟨l,T,d,c,k5,N,I.nw B.ex k3 (I.hok.new k3),G,D,A⟩
def J3e{Q:Unit ->Shared ->Prop}{fr:Option Addr}(I:Inv X pins σ H s)(F:B0t X pins H s a C t dd B)(k:∀s',Inv X pins σ H s' ->B0t X pins H s' a C t dd (fr.elim Value.none fun f=>rawInt f) ->Q () s'):wpAny M A (setFlight (.ref a) fr) Q E s:=by
 obtain⟨p,T,y,x,e,i,j,u,v,r⟩:=F
 refine J9d e u v r fun h' k1 h=>?_
 obtain⟨g,d,n,m,l⟩:=h
 have w:Inv X pins σ H {s with heap:=h'}:=I.stepN (ch:=[T]) (fun b c=>by
   have:b=T:=by simpa using c
   subst this
   exact j) (fun b o _ _ c q=>k1 b o (fun z=>c (by simp[z])) q) (fun b o c q=>⟨_,k1 b o (fun z=>c (by simp[z])) q⟩)
 exact k _ w ⟨p,T,g,d,k1 a _ (eU i) e,i,j,n,m,l⟩
def B3d{Q:Unit ->Shared ->Prop}(I:Inv X pins σ H s)(F:B0t X pins H s a C t dd c)(k:∀s',Inv X pins σ H s' ->B0t X pins H s' a C t dd .none ->Q () s'):wpAny M A (setFlight (.ref a) none) Q E s:=J3e (fr:=none) I F k
def D6b{Q:Unit ->Shared ->Prop}(B:U1v X)(I:Inv X pins σ H s)(F:Flt X pins H s a C t dd)(k:∀s',Inv X pins σ H s' ->B0t X pins H s' a C t dd .none ->Q () s'):wpAny M X.A (leaving X.env (.ref a)) Q E s:=by
 unfold leaving
 exact aE (C6j B I F fun e c d=>B3d c d k)
end
abbrev EK:=Value ->Option Addr ->St ->Hp ->Prop
def U6(X:Cx)(d:EK):Prop:=∀(b:List (Addr×Obj)) (c:St) (H:Hp) (s:Shared) (a t:Addr) (C:Value) (dd:Option Addr),Inv X b c H s ->Flt X b H s a C t dd ->d C dd c H ->X.xe (.ref a) s
inductive CX1(P:Program)(w:World)(outer:List Env)(H:Hp)(s:Shared)(E:XK)(e:Value)(b:Shared):Prop
 |mk(a t:Addr) (C:Value) (dd:Option Addr) (c:Hp)(_:e= .ref a)(_:b.os=s.os)(_:AllBare b.gens)(_:Un (frs outer) [] H c s.heap b.heap)(_:HOk P w c b.heap)(_:E C dd c)(_:s.heap.get? a=none/\c a=none) (T f d)(_:b.heap.get? a=some (A1u C t dd (.ref T)))(_:T≠a)(_:s.heap.get? T=none/\c T=none)(_:b.heap.get? T=some f)(_:f.data= .fields d)(_:d[3]?=some .none)
def B7c{K:PySem.W.Frag}{E:XK}:
   U6 (A1m (CX1 P w) P w K Y Z N b scope f q A outer s H E) (fun C dd _ d=>E C dd d):=by
 intro g u d v a t C dd I F h
 refine D6b (X:=A1m (CX1 P w) P w K Y Z N b scope f q A outer s H E) ⟨rfl,rfl,rfl⟩ I F fun s2 c r=>?_
 obtain⟨i,T,l,k,e,m,j,o,p,n⟩:=r
 exact⟨a,t,C,dd,d,rfl,c.os,c.bare,c.base,c.hok,h,⟨i.old,i.un⟩,T,l,k,e,m,⟨j.old,j.un⟩,o,p,n⟩
section
variable{X:Cx}{k:Nat}{f C:Addr}{fd:FuncData}{ps:List Str}{sp:Sp}{dvs:List V}{ds:List Value}{EH:EK}{x m:Str}{p pos apos:Pos}{e o:Expr}{es:List Expr}{ta:TE}{t:TA}
def U5x{e:Value}(y:U6 X EH)(g:X.ex=[])(I:Inv X c j H s)(h:CX1 X.prog X.w X.stack H s (fun C d i=>EH C d j i) e l):X.xe e l:=by
 obtain⟨a,t,C,dd,i,rfl,os,bare,un,n,A,⟨G,F⟩,T,v,r,z,w,⟨u,t2⟩,D,E,B⟩:=h
 have J:Inv X c j i l:=I.call' (ch:=[]) os un n bare (fun b q=>absurd q (by simp))
 exact y c j i l a t C dd J (B0t.flt ⟨I.nw g G F,T,v,r,z,w,I.nw g u t2,D,E,B⟩) A
def B6u(F:B0 X.prog X.w X.K X.mg X.base (CX1 X.prog X.w) k f fd ps sp)(l:A1e k X.A)(v:Binds X.K fd ps ds)(q:U7 dvs ds)(j:U6 X EH)(c:X.ex=[])(I:Inv X a g H s)(r:U7 vs us)(h:sp (vs++dvs) H Q (fun C d y=>EH C d g y)):wpAny (model X.prog X.w) X.A (call (.ref f) us) (EP X a g Q) X.xe s:=by
 have i:U7 (vs++dvs) (us++ds):=r.append q
 have n:(us++ds).length=ps.length:=by rw[<-i.length];exact F.len _ _ _ _ h
 refine gE (gF (F.run X.A X.stack s H ⟨us,[]⟩ (us++ds) (vs++dvs) Q _ l I.env0 (v s us I.kIn n) i h) fun r z b=>?_)
 cases r with
 |error e=>exact U5x j c I b
 | ok w=>
   cases w with
   |ret u=>exact I.after b
   |next=>exact False.elim b
   |brk=>exact False.elim b
   |cont=>exact False.elim b
def B7y(sp:Sp)(dvs:List V)(EH:EK)(t:TA):TE:=fun a H Q=>t a H fun vs b=>sp (vs++dvs) b Q (fun C d c=>EH C d a c)
def D9g(F:B0 X.prog X.w X.K X.mg X.base (CX1 X.prog X.w) k f fd ps sp)(j:A1e k X.A)(u:Gl X x)(l:X.mg x=some (.ref f))(n:PySem.W.keepIn X.K (.ref f)=true)(w:Binds X.K fd ps ds)(v:U7 dvs ds)(i:U6 X EH)(y:PA X (e::es) t)(b:X.ex=[]:=by rfl)(c:(x==("__debug__":Str))=false:=by decide)(he:starEach (e::es) X.env=(false,eval e X.env)::starEach es X.env:=by rfl)(hpl:(backTo pos (starEach es X.env)).any (·.1)=false:=by rfl):PE X (.Call (.Name x p) (e::es) [] pos) (B7y sp dvs EH t):=by
 intro a s g H Q I h
 refine cU (A2e I u l ?_ c)
 refine PySem.W.callWith_K (h₀:=X.base) I.ok.mod.kin n (thn (y pos a s g H _ I h) fun us z ⟨vs,A,d,r,q⟩=>⟨d.kIn,?_⟩) he hpl
 exact B6u F j w v i b d r q
def D6c(F:B0 X.prog X.w X.K X.mg X.base (CX1 X.prog X.w) k f fd ps sp)(g:A1e k X.A)(l:Gl X x)(i:X.mg x=some (.ref f))(j:PySem.W.keepIn X.K (.ref f)=true)(q:Binds X.K fd ps ds)(n:U7 dvs ds)(d:U6 X EH)(a:X.ex=[]:=by rfl)(b:(x==("__debug__":Str))=false:=by decide):PE X (.Call (.Name x p) [] [] pos) (B7y sp dvs EH D7j):=by
 intro c s r H Q I h
 refine cU (A2e I l i ?_ b)
 exact PySem.W.callWith_K0 I.kIn j (B6u (us:=[]) F g q n d a I .nil h)
end
section
variable{P:Program}{w:World}{K:PySem.W.Frag}{Y:Str ->Option Value}{Z:Heap}
def Fun.okE{st:Stmt}{N ps:List Str}{k:Nat}{sp:Sp}(F:Fun K x b st f fd)(S:B9 N ps (A5 st))(len:∀vs H Q E,sp vs H Q E ->vs.length=ps.length)(c:∀(X:Cx) (a:Value) (A:Around) (outer:List Env) (s:Shared) (H:Hp) (vs:List V) (Q:VK) (E:XK),X=A1m (CX1 P w) P w K Y Z N b (A5 st) f a A outer s H E ->A1e k X.A ->U6 X (fun C dd _ d=>E C dd d) ->sp vs H Q E ->
     ∃t,PSs (A1m (CX1 P w) P w K Y Z N b (A5 st) f a A outer s H E) (U4 st) t/\t {nx:=fun _ d=>Q .non d,rt:=Q} (A7w N vs) H):B0 P w K Y Z (CX1 P w) (k+1) f fd ps sp:=by
 obtain⟨o,n,kV,l,m,p,a,ct,e,rfl,g,j⟩:=F.ex
 exact G1v g j S len fun A outer s H vs Q E i h=>c _ a A outer s H vs Q E rfl i B7c h
def B0.up{k:Nat}(F:B0 P w K Y Z CX0 k f fd ps sp):B0 P w K Y Z (CX1 P w) k f fd ps sp:=by
 refine⟨F.len,fun A outer s H args us vs Q E a d b r h=>gF (F.run A outer s H args us vs Q E a d b r h) fun r g q=>?_⟩
 cases r with
 |error e=>exact False.elim q
 |ok c=>cases c<;>exact q
end
end L2
namespace L2
open PySem PySem.Spec PyProof.Rows PySem.W
def J4e{K:Frag}{h:Heap}(X:K.In h)(q:excIn K C c newId=true):
   ∃ (bm:List Value) (N:Addr) (nm p:Str) (bs:List Value) (r:Bool) (sn:List Str) (sub:List Value) (ab:Bool) (col:Option Bool) (dd:Option Addr) (k0 k1 k2 k3 k5:Option Value) (mN:Str ->Option Value),
     h.get? C=some (excClassObj nm p C N bs bm r sn sub ab col dd k0 k1 k2 k3 k5 newId)/\h.Ns N mN/\mN "__init__"=none/\OwnTail h c bm:=by
 unfold excIn at q
 split at q
 . rename_i dd s e ho
   split at q
   . rename_i E bm k0 k1 k2 k3 n k5 j i
     simp only[cK,gD,iL] at q
     obtain⟨⟨⟨⟨⟨o,m⟩,g⟩,k⟩,a⟩,f⟩:=q
     subst o m
     obtain⟨B,z,D,y,x,w,v,u,t,d,A⟩:=s
     dsimp only at j g a f
     subst j g
     have b:e= #[k0,k1,k2,k3,some (.builtin n),k5]:=by
       obtain⟨l⟩:=e
       simp only at i
       rw[i]
     subst b
     exact⟨bm,y,B,x,z,w,v,u,t,d,dd,k0,k1,k2,k3,k5,_,X _ _ ho,.of_isNs (isNs_of_in X a),nsMap_none_of_in X a f,tail_of_in X k⟩
   . cases q
 cases q
section
variable{X:Cx}{x:Str}{p cpos pos:Pos}{e:Expr}{es:List Expr}{t:TA}{C:Addr}{bmB:List Value}{B newId initId:String}{EH:EK}
def U1c(C:Addr)(EH:EK)(t:TA):TS:=fun _ a H=>t a H fun vs b=>vs.length<=sizeLine/\EH (.ref C) none a b
def A0v(v:Gl X x)(u:X.mg x=some (.ref C))(q:excIn X.K C bmB newId=true)(l:ExcBaseFacts B newId initId bmB)(hh:X.A.handled=none)(o:U6 X EH)(A:PA X (e::es) t)(i:X.ex=[]:=by rfl)(j:(x==("__debug__":Str))=false:=by decide)(he:starEach (e::es) X.env=(false,eval e X.env)::starEach es X.env:=by rfl)(hpl:(backTo cpos (starEach es X.env)).any (·.1)=false:=by rfl):
   PS X (.Raise (some (.Call (.Name x p) (e::es) [] cpos)) none pos) (U1c C EH t):=by
 intro b s f H D I h
 obtain⟨bm,N,nm,n,bs,w,sn,sub,ab,col,dd,k0,k1,k2,k3,k5,mN,F,E,g,T⟩:=J4e I.ok.mod.kin q
 refine wpAny_Raise_call_subT (C:=C) (nm:=nm) (q:=n) (N:=N) (bs:=bs) (bm:=bm) (hdct:=w) (sn:=sn) (sub:=sub) (ab:=ab) (col:=col) (dd:=dd) (k0:=k0) (k1:=k1) (k2:=k2) (k3:=k3) (k5:=k5) l (mN:=mN) (T.hasType l.hasBase) hh
   (by rw[he];show(false||(backTo cpos (starEach es X.env)).any (·.1))=false;rw[hpl];rfl) g (A2e I v u ⟨rfl,?_⟩ j)
 have d:=A cpos b s f H _ I h
 rw[he] at d ⊢
 refine gX (bX d (fun us s2 ⟨vs,k,c,r,z,q⟩=>⟨rfl,by rw[<-r.length];exact z,c.bk _ _ F,E.keeps c.bk,T.keeps c.bk,fun h' a m=>?_⟩) fun _ _ y=>y)
 have J:Inv X b f k {s2 with heap:=h'}:=c.kept (t':=s2.toks) m.keeps
 obtain⟨t',G,L,M⟩:=m.there
 exact o b f k _ a t' (.ref C) none J ⟨c.nw i m.new (c.hok.new m.new),.none,G,.inl rfl,fun T z=>nomatch z⟩ q
end
section
variable{X:Cx}{pins:List (Addr×Obj)}{σ:St}{H:Hp}{s:Shared}
def Inv.track(I:Inv X pins σ H s)(n:Nw X pins H a)(e:s.heap.get? a=some o):Inv X pins σ (upd H a (.frz o (.own a))) s:=by
 have d:∀b u,H b=some u ->b≠a:=fun b u z q=>by rw[q,n.un] at z;cases z
 have up:∀b,b≠a ->upd H a (.frz o (.own a)) b=H b:=fun b f=>D8 f
 refine⟨I.ok,I.os,I.bare,⟨I.base.keep,I.base.slot,fun b u z m k=>?_,I.base.there,fun b xs z=>?_,fun b u v z=>?_,fun b ps z=>?_⟩,I.loc,I.cell,?_,fun x c z=>?_,fun p g=>?_,fun b u z=>?_,I.len⟩
 . rw[up b fun q=>by rw[q,n.old] at z;cases z]
   exact I.base.free b u z m k
 . have:=I.base.tups b xs z
   rw[up b (d b _ this)];exact this
 . have:=I.base.frzs b u v z
   rw[up b (d b _ this)];exact this
 . obtain⟨more,this⟩:=I.base.tbls b ps z
   exact⟨more,by rw[up b (d b _ this)];exact this⟩
 . rw[up _ (eU n.loc)];exact I.free
 . rw[up _ (n.cell x c z)];exact I.freeC x c z
 . obtain⟨j,i,h⟩:=I.pin p g
   exact⟨j,by rw[up _ (n.pin p g)];exact i,h⟩
 by_cases f:b=a
 . subst f
   rw[A6] at z
   cases z
   exact⟨e,_,e⟩
 rw[up b f] at z
 exact(I.hok b u z).stay (fun _ _ _ q=>q) (fun c q=>by rw[up c (d c _ q)];exact q) (fun c xs q=>by rw[up c (d c _ q)];exact q)
def D7u{i:Nat}{Q:Unit ->Shared ->Prop}(I:Inv X pins σ H s)(hN:X.N.Nodup)(R:X.N[i]?=some x)(C:X.env.scope.names.lookup x=some .local)(N:σ[i]?=some (some v))(k:∀J,Inv X pins (σ.set i none) H J ->Q () J):wpAny M A (unbindName X.env x) Q E s:=by
 obtain⟨m,O,P⟩:=id I.loc
 have l:(X.env.scope.kind== .class||(X.env.scope.kind== .module&&X.env.locals !=X.env.globals))=false:=by rw[I.ok.kind];rfl
 obtain⟨u,_,lk⟩:=P i x v R N (.inl C)
 have hm:m x=some u:=by
   rcases lk with⟨_,z⟩|⟨z,_⟩
   . exact z
   . have z:X.env.scope.names.lookup x=some .cell\/X.env.scope.names.lookup x=some .free:=z
     rw[C] at z
     rcases z with z|z<;>cases z
 refine wpAny_unbindName_local C O hm l fun h' w' B a=>k _ ?_
 obtain⟨oL,_,_,xu,_⟩:=id O
 have w:∀b o,X.s₀.heap.get? b=some o ->b≠X.env.locals:=fun b o e=>cA (aQ (bA e) I.ok.above)
 refine⟨I.ok,I.os,I.bare,⟨fun b o e n F g=>?_,fun b o e n F g=>?_,I.base.free,fun b o e g=>?_,I.base.tups,I.base.frzs,I.base.tbls⟩,⟨_,B,fun j y T f t e3=>?_⟩,fun y c e=>?_,I.free,I.freeC,fun p hp=>?_,fun b u z=>?_,by simpa using I.len⟩
 . exact(a.2 b (w b o e)).trans (I.base.keep b o e n F g)
 . obtain⟨W,f⟩:=I.base.slot b o e n F g
   exact⟨W,(a.2 b (w b o e)).trans f⟩
 . obtain⟨Z,f⟩:=I.base.there b o e g
   exact⟨Z,(a.2 b (w b o e)).trans f⟩
 . by_cases D:j=i
   . subst D
     have h:j<σ.length:=(bQ.mp N).1
     rw[fZ h] at t
     cases t
   . rw[jE (eU D)] at t
     obtain⟨U,Y,q⟩:=P j y T f t e3
     refine⟨U,Y,?_⟩
     rcases q with⟨k1,e⟩|⟨k1,c,e,z⟩
     . have:y≠x:=fun e=>D (B8n hN f (e▸R))
       exact .inl ⟨k1,by simp[this,e]⟩
     . exact .inr ⟨k1,c,e,z.sameBut a (I.cne y c e)⟩
 . obtain⟨G,z⟩:=I.cell y c e
   exact⟨G,z.sameBut a (I.cne y c e)⟩
 . obtain⟨e,n,L,nf,d⟩:=I.pin p hp
   exact⟨(a.2 p.1 L).trans e,n,L,nf,d⟩
 refine(I.hok b u z).stay (fun c G r q=>(a.2 c ?_).trans q) (fun _ q=>q) fun _ _ q=>q
 rintro rfl
 rcases r with rfl|r
 . rw[I.free] at z;cases z
 rw[I.free] at r;cases r
end
abbrev Cx.hold(X:Cx)(pins:List (Addr×Obj))(E:Value ->Shared ->Prop):Cx:={X with pn:=X.pn++pins,xe:=E}
abbrev Cx.hnd(X:Cx)(pins:List (Addr×Obj))(a:Addr):Cx:={X with A:=X.A.mark (some (.ref a)),calm:=false,pn:=X.pn++pins,xe:=fun _ _=>False}
section
variable{X:Cx}{pins pins':List (Addr×Obj)}{σ:St}{H:Hp}{s:Shared}{a:Addr}{E:Value ->Shared ->Prop}
def Inv.hold(I:Inv X pins σ H s):Inv (X.hold pins E) [] σ H s:=
 ⟨⟨I.ok.mod,I.ok.kind,I.ok.glob,I.ok.blt,I.ok.above,I.ok.inj,I.ok.has,I.ok.cab,I.ok.hd,I.ok.frames,I.ok.stk,I.ok.exf,I.ok.bs,I.ok.bsz,I.ok.noex,I.ok.exfs,I.ok.funs,I.ok.frf⟩,
   I.os,I.bare,I.base,I.loc,I.cell,I.free,I.freeC,fun p b=>I.pin p (by simpa using b),I.hok,I.len⟩
def Inv.unhold(I:Inv (X.hold pins E) pins' σ H s):Inv X pins σ H s:=
 ⟨⟨I.ok.mod,I.ok.kind,I.ok.glob,I.ok.blt,I.ok.above,I.ok.inj,I.ok.has,I.ok.cab,I.ok.hd,I.ok.frames,I.ok.stk,I.ok.exf,I.ok.bs,I.ok.bsz,I.ok.noex,I.ok.exfs,I.ok.funs,I.ok.frf⟩,
   I.os,I.bare,I.base,I.loc,I.cell,I.free,I.freeC,fun p b=>I.pin p (aZ _ b),I.hok,I.len⟩
def Inv.hnd(I:Inv X pins σ H s):Inv (X.hnd pins a) [] σ H s:=
 ⟨⟨I.ok.mod,I.ok.kind,I.ok.glob,I.ok.blt,I.ok.above,I.ok.inj,I.ok.has,I.ok.cab,(fun z=>nomatch z),I.ok.frames,I.ok.stk,I.ok.exf,I.ok.bs,I.ok.bsz,I.ok.noex,I.ok.exfs,I.ok.funs,I.ok.frf⟩,
   I.os,I.bare,I.base,I.loc,I.cell,I.free,I.freeC,fun p b=>I.pin p (by simpa using b),I.hok,I.len⟩
def Inv.unhnd(ok:X.Ok)(I:Inv (X.hnd pins a) pins' σ H s):Inv X pins σ H s:=
 ⟨ok,I.os,I.bare,I.base,I.loc,I.cell,I.free,I.freeC,fun p b=>I.pin p (aZ _ b),I.hok,I.len⟩
def Nw.unhold(n:Nw (X.hold pins E) pins' H b):Nw X pins H b:=⟨n.un,n.loc,n.fs,n.old,n.cell,fun p c=>n.pin p (aZ _ c)⟩
def Flt.unhold(F:Flt (X.hold pins E) pins' H s a C t dd):Flt X pins H s a C t dd:=by
 obtain⟨n,b,e,ok,m⟩:=F
 exact⟨n.unhold,b,e,ok,fun T z=>(m T z).unhold⟩
def SP.unhold(h:SP (X.hold pins E) pins' D f d):SP X pins D f d:=by
 cases f with
 |next=>obtain⟨b,c,I,q⟩:=h;exact⟨b,c,I.unhold,q⟩
 |brk=>obtain⟨b,c,I,q⟩:=h;exact⟨b,c,I.unhold,q⟩
 |cont=>obtain⟨b,c,I,q⟩:=h;exact⟨b,c,I.unhold,q⟩
 |ret u=>obtain⟨v,b,c,I,r,q⟩:=h;exact⟨v,b,c,I.unhold,r,q⟩
end
structure B1d(K:Frag)(R:Addr):Prop where
 ty:typeIn K (.ref R)=some (.type "type")
 cl:(clsIn K R).isSome=true
 ex:subIn K (.ref R) (.type "BaseException")=some true
def A6z{K:Frag}(X:K.In h)(c:(clsIn K R).isSome=true):Looks M h (isType (.ref R)) true:=by
 unfold clsIn at c
 split at c
 . rename_i ho
   intro e b d a k q
   unfold isType loadHead
   exact aE (wpAny_loadPart (k _ _ (X _ _ ho)) (aR q))
 cases c
def A9v{K:Frag}{s:Shared}{f:Obj}{b:Bool}{Q:Bool ->Shared ->Prop}(X:K.In s.heap)(j:s.heap.get? a=some f)(i:f.cls=C)(c:B1d K R)(m:subIn K C (.ref R)=some b)(h:Q b s):wpAny M A (excMatches (.ref a) (.ref R)) Q E s:=by
 obtain⟨e,g,d,tk,os⟩:=s
 have o:Looks M e (typeOf (.ref R)) (.type "type"):=looks_typeIn X c.ty
 have L2:Looks M e (isSubtype (.ref R) (.type "BaseException")) true:=looks_subIn X c.ex
 have n:Looks M e (isSubtype C (.ref R)) b:=looks_subIn X m
 have l:Looks M e (typeOf (.ref a)) C:=i▸(Looks.ld j).andThen .now
 have k:Looks M e (isType (.ref R)) true:=A6z X c.cl
 unfold excMatches
 unfold isInstance
 refine aE (aE (o.at ?_))
 rw[tc_notTuple]
 refine aR ?_
 simp only[iH,kN]
 refine aE (aR ?_)
 simp only[kI,List.forIn_nil]
 unfold isExcClass
 refine aE (aE (aE (aE (k.at ?_))))
 simp only[kW]
 refine L2.at ?_
 simp only[Bool.not_true,iH,kN]
 refine aR (aR ?_)
 refine aE (l.at ?_)
 refine aE (aE (aE (n.at ?_)))
 cases b with
 |true=>simp only[kW];exact aR (aR (aR h))
 |false=>simp only[iH,kN];exact aR (aR (aR h))
section
variable{X:Cx}{x n:Str}{np hpos pos:Pos}{R:Addr}{i:Nat}{body suite:List Stmt}{b₀:Stmt}{tb:EK ->TS}{ts:Addr ->TS}
end
structure D1v(K:Frag)(C:Addr):Prop where
 ga:findIn K (.ref C) "__getattribute__"=some (some (.builtin "BaseException.__getattribute__"))
 gh:findIn K (.ref C) "__getattr__"=some none
 ca:findIn K (.ref C) "__class__"=some (some (.builtin "object.__class__"))
 sn:specialIn K (.builtin "object.__class__") "__get__"=some (some (.builtin "getset_descriptor.__get__"))
 tk:takesIn K (.builtin "object.__class__")=some true
 ob:mroIn K C (.type "object")=some true
 be:subIn K (.ref C) (.type "BaseException")=some true
 cl:(clsIn K C).isSome=true
def A8p{s:Shared}{K:Frag}{Q:Option Value ->Shared ->Prop}(F:D1v K C)(X:K.In s.heap)(I:PySem.W.InstAt s.heap a y C n)(h:Q (some (.ref C)) {s with toks:=s.toks+1}):wpAny (model prog w) A (getAttr? (.ref a) "__class__") Q E s:=by
 obtain⟨c,g,d,t,os⟩:=s
 have j:=I.type (M:=model prog w)
 have x:=jK (M:=model prog w) X F.ga
 have L2:=jK (M:=model prog w) X F.gh
 have v:Looks (model prog w) c (isInstance (.ref a) (.type "BaseException")) true:=j.andThen (looks_subIn X F.be)
 have p:findObj K C n "__class__"=some (.bind (.builtin "getset_descriptor.__get__") (.builtin "object.__class__")):=by
   obtain⟨B,q⟩:=Option.isSome_iff_exists.mp F.cl
   unfold findObj
   rw[q,hZ,F.ca,hZ]
   simp[F.sn,F.tk]
 have u:=looks_find (M:=model prog w) X I p
 have o:builtinKind "BaseException.__getattribute__"=some .slot:=by decide+kernel
 have b:splitId "BaseException.__getattribute__"=some ("BaseException","__getattribute__"):=by decide+kernel
 have e:=PySem.F.args_bexc_ga (.ref a) (.str "__class__" t)
 have r:=PySem.F.attr_ValueError.ga.bind (.ref a)
 unfold getAttr? getAttrBy? getAttrBy
 refine aE (wpAny_mkText (aE (wpAny_attempt (eI (aE (j.at (aE (x.at ?_))))))))
 dsimp only
 rw[aA (show¬((onTheHeap (Value.ref C)&&Value.builtin "BaseException.__getattribute__"==Value.builtin "object.__getattribute__")=true) by
   rw[show(Value.builtin "BaseException.__getattribute__"==Value.builtin "object.__getattribute__")=false by decide+kernel,kQ];exact aB)]
 unfold getAttrByItsOwn
 refine aE (m:=hookBefore (.ref C)) (L2.at ?_)
 refine aE (wpAny_attempt (eI ?_))
 unfold callGetattribute
 rw[aA (by decide)]
 unfold boundAndCalled
 rw[r]
 refine aE (aR ?_)
 refine gE (gY PySem.F.attr_ValueError.ga.plain PySem.F.entry_bexc_ga ?_)
 have f:∀{l:Around} {i:Unit ->Shared ->Prop} {k:Value ->Shared ->Prop},i () ⟨c,g,d,t+1,os⟩ ->wpAny (model prog w) l (checkBuiltinCall "BaseException.__getattribute__" ⟨[.ref a,.str "__class__" t],[]⟩) i k ⟨c,g,d,t+1,os⟩:=by
   intro l i k z
   simp only[checkBuiltinCall,o,b]
   refine aE ?_
   refine v.at ?_
   repeat (first|assumption|wp_step)
 refine f ?_
 show wpAny _ _ (Builtin.«object.__getattribute__» ⟨[.ref a, .str "__class__" t], []⟩) _ _ _
 unfold Builtin.«object.__getattribute__»
 refine aE (aR ?_)
 refine aE (aR ?_)
 refine aE (j.at (aE (u.at ?_)))
 dsimp only
 show wpAny _ _ (holding [Value.builtin "object.__class__"] (call (.builtin "getset_descriptor.__get__") [.builtin "object.__class__",.ref a,.ref C])>>=ret) _ _ _
 refine aE (eI (gE (class_get (s:=⟨c,g,d,t+1,os⟩) X I F.ob (aR ?_))))
 exact handed_on rfl (aR h)
def A7m(X:Cx):Prop:=X.A.handled=none\/∃x o u vs,X.A.handled=some (.ref x)/\X.H₀ x=some (.frz o u)/\o.data= .fields vs/\vs[2]?=some .none
section
variable{X:Cx}{pins:List (Addr×Obj)}{σ:St}{H:Hp}{s:Shared}
end
section
variable{X:Cx}{tg:Expr}
end
def G2w{R:Result ->Shared ->Prop}(I:Nat ->Shared ->Prop)(j :∀n s,I n s ->wpAny (model prog w) A (pyNext y) (fun r b=>match r with
     |none=>R (.ok .next) b
     |some v=>wpAny (model prog w) A (letOwnedTupleGo a y v) (fun _ s₀=>wpAny (model prog w) A (assign a env v) (fun _ g=>wpAny (model prog w) A (eval t env) (fun x f=>
         wpAny (model prog w) A (call (.builtin "list.append") [u,x]) (fun _ d=>∃m,m<n/\I m d) (notedBy (model prog w) A env fun e c=>R (.error e) c) f) (notedBy (model prog w) A env fun e c=>R (.error e) c) g)
         (notedBy (model prog w) A env fun e c=>R (.error e) c) s₀) (notedBy (model prog w) A env fun e c=>R (.error e) c) b) (notedBy (model prog w) A env fun e c=>R (.error e) c) s)(n:Nat)(h:I n s):codeAny (model prog w) A (.compLoop (.ListComp t [⟨a,q,[],0⟩] scope pos) 0 y u env) R s:=by
 refine codeAny_loop rfl I (fun n s B=>?_) n h
 show wpAny _ A ((compTurn (.ListComp t [⟨a,q,[],0⟩] scope pos) 0 y u env).onRaise (fun x=>do noteFrame x env;theTreesLotGoes x)) _ _ s
 refine wpAny_noted ?_;rw[compTurn_list1]
 refine aE (fw (aE (bX (j n s B) (fun r b i=>?_) fun _ _ z=>z)))
 cases r with
 |none=>exact aR i
 | some v=>
   refine aE (bX i (fun _ s₀ p=>?_) fun _ _ z=>z)
   refine aE (bX p (fun _ g o=>?_) fun _ _ z=>z)
   exact aE (aE (bX o (fun x f l=>aE (bX l (fun _ d k=>aR (aR ⟨rfl,k⟩)) fun _ _ z=>z)) fun _ _ z=>z))
section
variable{X:Cx}
def D2z{s:Shared}(I:Inv X a c H s)(f:B5w X a H C)(d:Heap.SameBut C s.heap h'):Inv X a c H {s with heap:=h'}:=
 I.turned (t':=s.toks) (fun b o g e=>(d.2 b g).trans e) f.1 f.2.1 f.2.2.2.1 f.2.2.2.2.1 f.2.2.2.2.2
end
section
variable{X:Cx}{a b c:Expr}{ta tb tc:TE}{pos:Pos}
def V5:OpR X (binaryOp .Mult) (rI IntMulOk fun i j=> .int (i*j)):=opI fun _ _ _ _ _ _ _ d q=>mul_int q d
def U3:OpR X (binaryOp .FloorDiv) (rI (fun _ j=>0<j/\j.natAbs.log2<9000) fun i j=> .int (i/j)):=opI fun i j _ _ _ _ _ d q=>by
 have e:(0:Int)<j:=d.1
 exact floordiv_int (by lia) (by rw[jL i (by lia)];exact q) (.inl (PyProof.noPylong_of_log2 d.2))
def Z3{i:Int}{k:Nat}(h:i.natAbs<2^k)(d:0<k):i.natAbs.log2<k:=by
 by_cases z:i.natAbs=0
 . rw[z];simpa using d
 exact(Nat.log2_lt z).mpr h
def B8p{i:Int}(h:i.natAbs<2^1000):Builtin.Int.intBits i<=2^20:=by
 unfold Builtin.Int.intBits
 split
 . exact bP _
 have:=Z3 h (by decide)
 have e:(2:Nat)^20=1048576:=by decide
 lia
def A0x{i j:Int}(h:i.natAbs<2^1000)(h':j.natAbs<2^1000):IntMulOk i j:=fz (B8p h) (B8p h')
inductive TyE(K:Frag)(H:Hp):V ->Value ->Prop where
 |of {x:V} {t:Value} (h:A9e K H x t):TyE K H x t
 |exc {a C:Addr} {t:XT} {T:Value} {u:HO} (e:H a=some (.frz (A1u (.ref C) t none T) u)) (k:D1v K C):TyE K H (.ref a) (.ref C)
 |excD {a C:Addr} {t:XT} {T:Value} {d:Addr} {u:HO} {fs:List (Str×V)} (e:H a=some (.frz (A1u (.ref C) t (some d) T) u)) (hd:H d=some (.xd fs)) (k:D1v K C):TyE K H (.ref a) (.ref C)
 |tupK {a:Addr} {o:Obj} (l:K.lookup a=some o) (c:o.cls= .type "tuple"):TyE K H (.ref a) (.type "tuple")
def C8s{s:Shared}{Q:Value ->Shared ->Prop}{c:Value}{b:Bool}(I:Inv X w O H s)(j:Y3 x u)(ty:TyE X.K H x t)(e:kitOne X.K t c=some b)(h:∀tk,Q (.bool b) {s with toks:=tk}):wpAny (model X.prog X.w) A (call (.builtin "isinstance") [u,c]) Q E s:=by
 cases ty with
 |of h'=>exact D7f I j h' e h
 | exc v k=>
   cases j
   rename_i a C i T B
   have o:s.heap.get? a=some (A1u (.ref C) i none T):=(I.hok a _ v).1
   refine kia_one (H:=fun h=>W.InstAt h a (A1u (.ref C) i none T) C none) ?_ I.kIn ⟨o,rfl,rfl,trivial⟩ e (fun z=>nomatch z) h
   refine⟨fun M h _ J=>J.type,fun M h K _=>A6z K k.cl,fun h m dd r n D K g=>?_,fun K J q=>A8p k K J q⟩
   refine gK.mpr fun q=>?_
   have e:C=m:=Value.ref.inj (gD.mp q)
   subst e
   have z:=k.cl
   unfold clsIn at z
   split at z
   . rename_i ho
     have y:=(K _ _ ho).symm.trans g
     cases y
   . cases z
 | tupK l c=>
   cases j
   exact W.kia_one W.kitx_tuple I.kIn ⟨_,I.kIn _ _ l,c⟩ e (fun z=>nomatch z) h
 | excD v N k=>
   cases j
   rename_i a C i T d B fs
   have o:s.heap.get? a=some (A1u (.ref C) i (some d) T):=(I.hok a _ v).1
   obtain⟨p,L,_⟩:=(show∃p,s.heap.Ns1 d p/\∀f,A7y (fs.lookup f) (p f) from I.hok d _ N)
   obtain⟨F,G,_⟩:=B3x L
   refine kia_one (H:=fun h=>W.InstAt h a (A1u (.ref C) i (some d) T) C (some F)) ?_ I.kIn ⟨o,rfl,rfl,G⟩ e (fun z=>nomatch z) h
   refine⟨fun M h _ J=>J.type,fun M h K _=>A6z K k.cl,fun h m dd r n D K g=>?_,fun K J q=>A8p k K J q⟩
   refine gK.mpr fun q=>?_
   have e:C=m:=Value.ref.inj (gD.mp q)
   subst e
   have z:=k.cl
   unfold clsIn at z
   split at z
   . rename_i ho
     have y:=(K _ _ ho).symm.trans g
     cases y
   . cases z
def U0j:V ->Option Value
 | .ty n=>some (.type n)
 | .ref a=>some (.ref a)
 |_=>none
def C6x:A6j X (.builtin "isinstance") (fun xs H Q=>∃x c d t b,xs=[x,c]/\U0j c=some d/\TyE X.K H x t/\kitOne X.K t d=some b/\Q (.bl b) H):=by
 intro g s k H xs us Q I r h
 obtain⟨x,c,d,t,b,rfl,f,ty,e,q⟩:=h
 obtain⟨u,v,rfl,j,i⟩:=U7.two r
 have:v=d:=by
   cases c<;>simp only[U0j] at f<;>first|(cases f;exact i)|cases f
 subst this
 exact C8s I j ty e fun tk=>⟨.bl b,H,I.tok tk,rfl,q⟩
mutual
inductive RdD(K:Frag)(H:Hp):V ->PyData ->Prop where
 |non:RdD K H .non .none
 |bl (b:Bool):RdD K H (.bl b) (.bool b)
 |int (i:Int):RdD K H (.int i) (.int i)
 |str (x:Str):RdD K H (.str x) (.str x)
 |tup {a:Addr} {xs:List V} {ds:List PyData} (h:SqT K H a xs) (r:B9e K H xs ds):RdD K H (.ref a) (.tuple ds)
 |lst {a:Addr} {xs:List V} {ds:List PyData} (h:SqL K H a xs) (r:B9e K H xs ds):RdD K H (.ref a) (.list ds)
inductive B9e(K:Frag)(H:Hp):List V ->List PyData ->Prop where
 |nil:B9e K H [] []
 |cons {x:V} {xs:List V} {d:PyData} {ds:List PyData} (h:RdD K H x d) (r:B9e K H xs ds):B9e K H (x::xs) (d::ds)
end
mutual
def RdD.reads{s:Shared}(I:Inv X k l H s):∀{x:V} {d:PyData} {u:Value},RdD X.K H x d ->Y3 x u ->∃j,Reads s.heap u d j
 |_,_,_,.non,r=>by cases r;exact⟨_,.none⟩
 |_,_,_,.bl b,r=>by cases r;exact⟨_,.bool b⟩
 |_,_,_,.int i,r=>by obtain⟨t,rfl⟩:=r;exact⟨_,.int i t⟩
 |_,_,_,.str x,r=>by obtain⟨t,rfl⟩:=r;exact⟨_,.str x t⟩
 | _,_,_,.tup h q,r=>by
   cases r
   obtain⟨g,f,⟨o,e,c,n,d⟩,_⟩:=I.tuple h
   obtain⟨j,z⟩:=B9e.reads I q f
   exact⟨_,reads_tuple_at e c d (by simpa using z)⟩
 | _,_,_,.lst h q,r=>by
   cases r
   obtain⟨g,f,p,_⟩:=I.list h
   obtain⟨o,e,c,n,d⟩:=p.isList
   obtain⟨j,z⟩:=B9e.reads I q f
   exact⟨_,reads_list_at e c d (by simpa using z)⟩
def B9e.reads{s:Shared}(I:Inv X d i H s):∀{xs:List V} {ds:List PyData} {us:List Value},B9e X.K H xs ds ->U7 xs us ->∃e,ReadsAll s.heap us ds e
 |_,_,_,.nil,r=>by cases r;exact⟨_,.nil⟩
 | _,_,_,.cons h q,r=>by
   cases r with
   | cons g f=>
     obtain⟨e,z⟩:=RdD.reads I h g
     obtain⟨bs,y⟩:=B9e.reads I q f
     exact⟨_,.cons z y⟩
end
inductive U8t(K:Frag)(n:Bool)(x y:V)(H:Hp)(Q:VK):Prop
 |mk(d e)(_:RdD K H x d)(_:RdD K H y e)(_:SeqAt.shaped d=true)(_:SeqAt.shaped e=true)(_:Q (.bl (if n then !PyData.eqv d e else PyData.eqv d e)) H)
def C8y(n:X.A.units+64<cLine):OpR X (compareOp .Eq) (U8t X.K false):=by
 intro f s o H x y v u Q I k j q
 obtain⟨d,e,m,l,i,h,q⟩:=q
 obtain⟨p,z⟩:=m.reads I k
 obtain⟨bs,g⟩:=l.reads I j
 exact eq_dataH z g i h n ⟨.bl (PyData.eqv d e),H,I,rfl,q⟩
def C9x(n:X.A.units+64<cLine):OpR X (compareOp .NotEq) (U8t X.K true):=by
 intro f s o H x y v u Q I k j q
 obtain⟨d,e,m,l,i,h,q⟩:=q
 obtain⟨p,z⟩:=m.reads I k
 obtain⟨bs,g⟩:=l.reads I j
 exact ne_dataH z g i h n ⟨.bl (!PyData.eqv d e),H,I,rfl,q⟩
def G2f(F:X.A.handled=none):A6j X (.builtin "any") (fun xs H Q=>∃(l:Addr) (bs:List Bool),xs=[.ref l]/\SqL X.K H l (bs.map V.bl)/\Q (.bl (bs.any id)) H):=by
 intro w s G H xs us Q I r h
 obtain⟨l,bs,rfl,D,q⟩:=h
 obtain⟨u,rfl,B⟩:=U7.one r
 cases B
 obtain⟨d,t,p,M⟩:=I.list D
 obtain⟨o,e,_⟩:=id p.isList
 have m:l<s.heap.objs.size:=bA e
 have f:d.length=bs.length:=by rw[<-t.length,aP]
 refine call_any_walk (wpAny_pyIter_list p.isList ?_)
 refine⟨s.heap.objs.size,[s.heap.objs.size,l],[s.heap.objs.size],d.toArray.size,_,_,fun i=>(bs[i]?).getD false,rfl,Walks.list (A:=X.A.in1) F _ l (cA m) d.toArray,⟨⟨_,bV _ rfl,rfl,rfl⟩,p.isList.push _⟩,fun i v L N O j n=>?_,fun h' tk E=>?_⟩
 . have j:d[i]?=some v:=by simpa using j
   have y:i<bs.length:=by rw[<-f];exact(bQ.mp j).1
   obtain⟨J,g,k⟩:=t.get (i:=i) (x:=V.bl bs[i]) (by simp[y])
   rw[j] at g
   cases g
   cases k
   have z:(bs[i]?).getD false=bs[i]:=by simp[y]
   dsimp only at n
   rw[z] at n
   exact fH n
 have z:((List.range d.toArray.size).any fun i=>(bs[i]?).getD false)=bs.any id:=by
   rw[bG,f]
   exact LSm.range_any bs
 rw[z]
 exact⟨.bl (bs.any id),H,I.kept fun b x e=>E b x (fun C=>by rw[bE.mp C] at e;exact eG _ (bA e)) (aF _ e),rfl,q⟩
inductive C7w(X:Cx):Expr ->TE ->Prop where
 |lit {x:Str} {j:Nat} {pos:Pos}:C7w X (.Constant (.str x) j pos) (tC (.str x))
 |int {v:Expr} {tv:TE} {pos:Pos} (h:PE X v tv):C7w X (.FormattedValue v (-1) none pos) (fun σ H Q=>tv σ H fun y H1=>∃i,y= .int i/\i.natAbs.log2<1920/\Q (.str (toString i)) H1)
def C7w.pe(h:C7w X e t):PE X e t:=by
 cases h with
 |lit=>exact A9
 | int h=>
   intro d s g H Q I q
   refine FormattedValue_plain (thn (h d s g H _ I q) fun u m f=>?_)
   obtain⟨y,k,j,r,i,e,l,q⟩:=f
   subst e
   obtain⟨t,rfl⟩:=r
   exact formatField_int_small l ⟨.str (toString i),k,j.tok _,⟨_,rfl⟩,q⟩
inductive B4z(X:Cx):List Expr ->(Str ->TE) ->Prop where
 |nil:B4z X [] (fun out _ H Q=>out.length<=sizeLine/\Q (.str out) H)
 |cons {e:Expr} {es:List Expr} {t:TE} {r:Str ->TE} (h:C7w X e t) (hr:B4z X es r):B4z X (e::es) (fun out σ H Q=>t σ H fun x H1=>∃y,x= .str y/\(out++y).length<=sizeLine/\r (out++y) σ H1 Q)
def B4z.run{t:Str ->TE}(h:B4z X j t):∀(f:Str) (d:List (Addr×Obj)) (s:Shared) (g:St) (H:Hp) (Q:VK),Inv X d g H s ->t f g H Q ->
   wpAny (model X.prog X.w) X.A (joinParts f (evalEach j X.env)) (EP X d g Q) X.xe s:=by
 induction h with
 | nil=>
   intro f d s g H Q I q
   exact joinParts_nil ⟨.str f,H,I.tok _,⟨_,rfl⟩,q.2⟩ q.1
 | @cons e j t r h v m=>
   intro f d s g H Q I q
   show wpAny _ _ (joinParts f (eval e X.env::evalEach j X.env)) _ _ _
   refine joinParts_cons (thn (h.pe d s g H _ I q) fun u k i=>?_)
   obtain⟨x,p,o,l,y,n,z,q⟩:=i
   subst n
   obtain⟨t',rfl⟩:=l
   exact⟨z,m _ d k g p Q o q⟩
def C2a{t:Str ->TE}{pos:Pos}(h:B4z X (i::g::f) t):PE X (.JoinedStr (i::g::f) pos) (t Str.empty):=by
 intro d s e H Q I q
 exact JoinedStr_many (h.run _ d s e H Q I q)
end
section
variable{P:Program}{w:World}{K:Frag}{Y:Str ->Option Value}{Z:Heap}
end
section
variable{X:Cx}{k:Nat}{f:Addr}{fd:FuncData}{ps:List Str}{sp:Sp}{x:Str}{p pos:Pos}{e:Expr}{es:List Expr}{t:TA}
end
abbrev EKF:EK:=fun _ _ _ _=>False
def Z1:U6 X EKF:=fun _ _ _ _ _ _ _ _ _ _ h=>h.elim
structure Def(K:Frag)(mg:Str ->Option Value)(x:Str)(ps:List Str)(st:Stmt)(f:Addr)(fd:FuncData):Prop where
 F:Fun K x x st f fd
 g:mg x=some (.ref f)
 b:Binds K fd ps []
def B4q{K:Frag}{h:Heap}{ps:List Str}{st:Stmt}{kV d e b ct:Value}(X:K.In h)(G:h.Ns mainGlobals Y)(a:nsIn K mainGlobals x=some (some (.ref f)))(l:K.lookup f=some ⟨n,m,.func (fnOf x x (U9 st) (U4 st) (A5 st) .none kV d e g b ct),i⟩)(c:codeIn K b x=true)(k:keepIn K (.ref f)=true)(j:∀(kV d e:Value) (g:Option Addr) (b ct:Value) (us:List Value),us.length=ps.length ->bindArgs (fnOf x x (U9 st) (U4 st) (A5 st) .none kV d e g b ct) ⟨us,[]⟩=pure (ps.zip us)):
   Def K Y x ps st f (fnOf x x (U9 st) (U4 st) (A5 st) .none kV d e g b ct):=
 ⟨A4t (st:=st) l c k,fS X G a,(A4t (st:=st) l c k).binds j⟩
def Y0[Decidable c](h:¬c)(b:B):if decide c=true then A else B:=by rw[aI h];exact V4 b
def Y8[Decidable c](h:c)(a:A):if decide c=true then A else B:=by rw[aT h];exact Y9 a
def G5[Decidable c](a:c ->A)(b:¬c ->B):if decide c=true then A else B:=by
 by_cases h:c
 . exact Y8 h (a h)
 exact Y0 h (b h)
inductive U8u(t:TS)(D:B0h)(c:St)(H:Hp):Prop
 |mk(J:St ->Hp ->Prop)(_:t {D with nx:=J} c H)(_:∀a b,J a b ->D.nx a b)
def C8{st:Stmt}(h:PS X st t):PS X st (U8u t):=by
 intro a s c H D I q
 obtain⟨J,q,k⟩:=q
 refine thn (h a s c H _ I q) fun f g z=>?_
 cases f with
 |next=>obtain⟨b,e,d,y⟩:=z;exact⟨b,e,d,k _ _ y⟩
 |brk=>exact z
 |cont=>exact z
 |ret u=>exact z
def ixv{xs:List V}{i:Int}(b:0<=i)(c:i<xs.length):∃v,v∈xs/\atI xs i=some v:=by
 obtain⟨j,rfl⟩:=aV b
 have a:j<xs.length:=by lia
 exact⟨xs[j],kC a,D9 (by simp[a])⟩
def C9.upd{H:Hp}(h:H p=none):C9 H (L2.upd H p o):=fun b u e=>by rw[D8 (D6 e h)];exact e
def C6{n:Nat}(h:n<=1000):n<=sizeLine:=fk (A0u h)
section
variable{X:Cx}{k j:Nat}{f:Addr}{fd:FuncData}{ps:List Str}{sp:Sp}{EH:EK}{x:Str}{st:Stmt}{p pos:Pos}{e:Expr}{es:List Expr}{t:TA}
def B7(D:Def X.K X.mg x ps st f fd)(F:B0 X.prog X.w X.K X.mg X.base (CX1 X.prog X.w) j f fd ps sp)(d:A1e k X.A)(c:U6 X EH)(i:PA X (e::es) t)(g:j<=k:=by decide)(h:Gl X x:=by rfl)(a:X.ex=[]:=by rfl)(b:(x==("__debug__":Str))=false:=by decide)(he:starEach (e::es) X.env=(false,eval e X.env)::starEach es X.env:=by rfl)(hpl:(backTo pos (starEach es X.env)).any (·.1)=false:=by rfl):PE X (.Call (.Name x p) (e::es) [] pos) (B7y sp [] EH t):=
 D9g (F.mono g) d h D.g D.F.kp D.b .nil c i a b he hpl
def A2m(D:Def X.K X.mg x ps st f fd)(F:B0 X.prog X.w X.K X.mg X.base (CX1 X.prog X.w) j f fd ps sp)(d:A1e k X.A)(c:U6 X EH)(g:j<=k:=by decide)(h:Gl X x:=by rfl)(a:X.ex=[]:=by rfl)(b:(x==("__debug__":Str))=false:=by decide):
   PE X (.Call (.Name x p) [] [] pos) (B7y sp [] EH D7j):=
 D6c (F.mono g) d h D.g D.F.kp D.b .nil c a b
def pty(d:X.mg n=none)(b:bootBuiltins n=some (.type T))(g:Gl X n:=by rfl)(c:n≠"__name__":=by decide)(a:(n==("__debug__":Str))=false:=by decide):PE X (.Name n pos) (tC (.ty T)):=J3s g d b rfl c a
def G3q(b:X.mg n=some (.ref C))(c:Gl X n:=by rfl)(a:(n==("__debug__":Str))=false:=by decide):PE X (.Name n pos) (tC (.ref C)):=D4c c b rfl a
def C7g(l:X.mg "isinstance"=none)(o:PE X a i)(n:PE X b h)(m:Gl X "isinstance":=by rfl)(d:starEach [a,b] X.env=(false,eval a X.env)::starEach [b] X.env:=by rfl)(r:starEach [b] X.env=(false,eval b X.env)::starEach [] X.env:=by rfl)(q:(backTo pos (starEach [b] X.env)).any (·.1)=false:=by rfl):
   PE X (.Call (.Name "isinstance" p) [a,b] [] pos) (tCB (fun xs H Q=>∃x c g t b,xs=[x,c]/\U0j c=some g/\TyE X.K H x t/\kitOne X.K t g=some b/\Q (.bl b) H) (G1s i (G1s h D7j))):=
 G9 C6x m l boot_isinstance (A0 o (A0 n A1 r) d) (he:=d) (hpl:=q)
end
section
variable{X:Cx}{k j:Nat}{f:Addr}{fd:FuncData}{ps:List Str}{sp:Sp}{x:Str}{st:Stmt}{p pos:Pos}{e:Expr}{es:List Expr}{t:TA}
end
structure Mk0(K:Frag)(C:Addr):Prop where
 makes:makesIn K C=true
 init:findIn K (.ref C) "__init__"=some (some (.builtin "object.__init__"))
 kp:keepIn K (.ref C)=true
section
variable{X:Cx}{k j:Nat}{f C:Addr}{fd:FuncData}{ps:List Str}{sp:Sp}{dvs:List V}{ds:List Value}{EH:EK}{x m:Str}{p pos apos:Pos}{e o:Expr}{es:List Expr}{ta:TE}{t:TA}
def J9e(C:Addr):TE:=fun _ H Q=>∀x a,H x=none ->H a=none ->a≠x ->Q (.ref x) (upd (upd H a (.own x)) x (.ins C a []))
def J4f(M:Mk0 X.K C)(I:Inv X a c H s)(h:J9e C c H Q):wpAny (model X.prog X.w) X.A (call (.ref C) []) (EP X a c Q) X.xe s:=by
 have g:=h (s.heap.objs.size+1) s.heap.objs.size (I.hok.fresh (iI _)) (I.hok.fresh (aO _)) (cA (jA _))
 have l:=Inv.made (C:=C) I
 have Y:=makes_of (M:=model X.prog X.w) I.kIn M.makes
 refine gE (D6m I.kIn M.makes M.init (fun self=>Looks.of_pure (oi_bind self)) ?_)
 have i:((s.heap.push emptyDict).push (instObj C s.heap.objs.size)).get? (s.heap.objs.size+1)=some (instObj C s.heap.objs.size):=by
   have:=bV (s.heap.push emptyDict) (o:=instObj C s.heap.objs.size) rfl
   rwa[Heap.size_push] at this
 have d:Looks (model X.prog X.w) ((s.heap.push emptyDict).push (instObj C s.heap.objs.size)) (typeOf (.ref (s.heap.objs.size+1))) (.ref C):=(Looks.ld i).andThen .now
 have t2:Looks (model X.prog X.w) ((s.heap.push emptyDict).push (instObj C s.heap.objs.size)) (isInstance (.ref (s.heap.objs.size+1)) (.type "object")) true:=d.andThen (Y.top.keeps fun b o e=>aF _ (aF _ e))
 refine gY oi_plain entry_oi (@check_slot (model X.prog X.w) _ _ _ "object.__init__" "object" "__init__" (.ref (s.heap.objs.size+1)) [] [] _ oi_kind oi_split t2 (oi_args (.ref (s.heap.objs.size+1))) ?_)
 rw[oi_run]
 exact aR (And.intro rfl ⟨V.ref (s.heap.objs.size+1),_,l,rfl,g⟩)
def A8v(M:Mk0 X.K C)(d:Gl X x)(c:X.mg x=some (.ref C))(a:(x==("__debug__":Str))=false:=by decide):PE X (.Call (.Name x p) [] [] pos) (J9e C):=by
 intro b s g H Q I h
 refine cU (A2e I d c ?_ a)
 exact callWith_K0 I.kIn M.kp (J4f M I h)
inductive G5g(C:Addr)(m:Str)(sp:Sp)(dvs:List V)(EH:EK)(t:TA)(b:St)(Q:VK)(x:V)(c:Hp):Prop
 |mk{a g fs}(_:x= .ref a)(_:c a=some (.ins C g fs))(_:fs.lookup m=none)(_:t b c fun vs h=>sp (x::(vs++dvs)) h Q (fun C d i=>EH C d b i))
def D9z(C:Addr)(m:Str)(sp:Sp)(dvs:List V)(EH:EK)(ta:TE)(t:TA):TE:=fun a H Q=>ta a H fun x b=>G5g C m sp dvs EH t a Q x b
def A2z(he:PE X o ta)(c:Cls X.K C)(w:B3j X.K C m f)(F:B0 X.prog X.w X.K X.mg X.base (CX1 X.prog X.w) j f fd ps sp)(J:A1e k X.A)(N:Binds X.K fd ps ds)(M:U7 dvs ds)(E:U6 X EH)(O:PA X (e::es) t)(L:j<=k:=by decide)(i:X.ex=[]:=by rfl)(d:starEach (e::es) X.env=(false,eval e X.env)::starEach es X.env:=by rfl)(hpl:(backTo pos (starEach es X.env)).any (·.1)=false:=by rfl)(G:eval (.Call (.Attribute o m apos) (e::es) [] pos) X.env=(do
     let v<-eval o X.env
     standAt apos.atName
     let(f,first)<-holding [v] (getMethod v m pl)
     callWith pos f first (backTo pos (starEach (e::es) X.env)) (backToKw pos (keywordEach [] X.env))):=by rfl):
   PE X (.Call (.Attribute o m apos) (e::es) [] pos) (D9z C m sp dvs EH ta t):=by
 intro b s n H Q I h
 refine methodCall_KW (pl:=pl) (thn (he b s n H _ I h) fun u A g=>?_) G
 obtain⟨x,R,z,B,q⟩:=g
 obtain @⟨a,T,fs,rfl,P,l,q⟩:=q
 obtain rfl:u=Value.ref a:=B
 refine B7z z P c w l ?_
 refine callWith_K (first:=[.ref a]) (h₀:=X.base) I.ok.mod.kin w.kp (thn (O pos b A n R _ z q) fun us s2 ⟨vs,U,y,r,D⟩=>⟨y.kIn,?_⟩) d hpl
 exact B6u (us:= .ref a::us) (vs:= .ref a::vs) (F.mono L) J N M E i y (.cons rfl r) D
def Y6{pl:Sem Bool}(he:PE X o ta)(c:Cls X.K C)(r:B3j X.K C m f)(F:B0 X.prog X.w X.K X.mg X.base (CX1 X.prog X.w) j f fd ps sp)(A:A1e k X.A)(E:Binds X.K fd ps ds)(D:U7 dvs ds)(y:U6 X EH)(B:j<=k:=by decide)(g:X.ex=[]:=by rfl)(z:eval (.Call (.Attribute o m apos) [] [] pos) X.env=(do
     let n<-eval o X.env
     standAt apos.atName
     let(f,first)<-holding [n] (getMethod n m pl)
     callWith pos f first (backTo pos (starEach [] X.env)) (backToKw pos (keywordEach [] X.env))):=by rfl):
   PE X (.Call (.Attribute o m apos) [] [] pos) (D9z C m sp dvs EH ta D7j):=by
 intro b s v H Q I h
 refine methodCall_KW (pl:=pl) (thn (he b s v H _ I h) fun u J d=>?_) z
 obtain⟨x,M,i,w,q⟩:=d
 obtain @⟨a,L,fs,rfl,G,l,q⟩:=q
 obtain rfl:u=Value.ref a:=w
 refine B7z i G c r l ?_
 exact callWith_K0 (first:=[.ref a]) i.kIn r.kp (B6u (us:=[.ref a]) (vs:=[.ref a]) (F.mono B) A E D y g i (.cons rfl .nil) q)
def G0z(C:Addr)(sp:Sp)(dvs:List V)(EH:EK)(t:TA):TE:=fun c H Q=>t c H fun vs b=>∀x a,b x=none ->b a=none ->a≠x ->
 sp (.ref x::(vs++dvs)) (upd (upd b a (.own x)) x (.ins C a [])) (fun v g=>v= .non/\Q (.ref x) g) (fun C d h=>EH C d c h)
def C0q{H:Hp}{Q:VK}(M:Mk X.K C f)(F:B0 X.prog X.w X.K X.mg X.base (CX1 X.prog X.w) k f fd ps sp)(B:A1e (k+1) X.A)(G:Binds X.K fd ps ds)(E:U7 dvs ds)(A:U6 X EH)(i:X.ex=[])(I:Inv X b n H s)(r:U7 vs us)(h:∀x c,H x=none ->H c=none ->c≠x ->sp (.ref x::(vs++dvs)) (upd (upd H c (.own x)) x (.ins C c [])) (fun v O=>v= .non/\Q (.ref x) O) (fun C d l=>EH C d n l)):
   wpAny (model X.prog X.w) X.A (call (.ref C) us) (EP X b n Q) X.xe s:=by
 have w:=h (s.heap.objs.size+1) s.heap.objs.size (I.hok.fresh (iI _)) (I.hok.fresh (aO _)) (cA (jA _))
 have g:=Inv.made (C:=C) I
 have q:U7 (V.ref (s.heap.objs.size+1)::(vs++dvs)) (Value.ref (s.heap.objs.size+1)::(us++ds)):= .cons rfl (r.append E)
 have D:(Value.ref (s.heap.objs.size+1)::us++ds).length=ps.length:=by
   have e:=q.length
   rw[F.len _ _ _ _ w] at e
   exact e.symm
 refine gE (C6u (f:=f) I.kIn M.makes M.init (gD.mp M.fn) (gF (F.run _ X.stack _ _ ⟨Value.ref (s.heap.objs.size+1)::us,[]⟩ (Value.ref (s.heap.objs.size+1)::(us++ds)) _ _ _ (B.make C us [])
   (g.env0.make C us []) (G _ (Value.ref (s.heap.objs.size+1)::us) g.kIn D) q w) fun r P a=>?_))
 cases r with
 |error e=>exact U5x A i g a
 | ok J=>
   cases J with
   | ret u=>
     obtain⟨v,l,N,y,L,z⟩:=g.after a
     subst L
     exact⟨y,⟨V.ref (s.heap.objs.size+1),l,N,rfl,z⟩⟩
   |next=>exact False.elim a
   |brk=>exact False.elim a
   |cont=>exact False.elim a
def A0r(M:Mk X.K C f)(F:B0 X.prog X.w X.K X.mg X.base (CX1 X.prog X.w) j f fd ps sp)(l:A1e k X.A)(n:X.mg x=some (.ref C))(y:Binds X.K fd ps ds)(w:U7 dvs ds)(i:U6 X EH)(z:PA X (e::es) t)(u:j+1<=k:=by decide)(v:Gl X x:=by rfl)(b:X.ex=[]:=by rfl)(c:(x==("__debug__":Str))=false:=by decide)(he:starEach (e::es) X.env=(false,eval e X.env)::starEach es X.env:=by rfl)(hpl:(backTo pos (starEach es X.env)).any (·.1)=false:=by rfl):
   PE X (.Call (.Name x p) (e::es) [] pos) (G0z C sp dvs EH t):=by
 intro a s g H Q I h
 refine cU (A2e I v n ?_ c)
 refine callWith_K (h₀:=X.base) I.ok.mod.kin M.kp (thn (z pos a s g H _ I h) fun us A ⟨vs,B,d,r,q⟩=>⟨d.kIn,?_⟩) he hpl
 exact C0q M F (l.mono u) y w i b d r q
def C8n(M:Mk X.K C f)(F:B0 X.prog X.w X.K X.mg X.base (CX1 X.prog X.w) j f fd ps sp)(g:A1e k X.A)(i:X.mg x=some (.ref C))(r:Binds X.K fd ps ds)(q:U7 dvs ds)(d:U6 X EH)(l:j+1<=k:=by decide)(n:Gl X x:=by rfl)(a:X.ex=[]:=by rfl)(b:(x==("__debug__":Str))=false:=by decide):PE X (.Call (.Name x p) [] [] pos) (G0z C sp dvs EH D7j):=by
 intro c s u H Q I h
 refine cU (A2e I n i ?_ b)
 exact callWith_K0 I.kIn M.kp (C0q (us:=[]) M F (g.mono l) r q d a I .nil h)
end
def C2k{n:Nat}(h:n<=sizeLine):Builtin.Str.tooLong n=false:=by
 unfold Builtin.Str.tooLong
 exact aI (by lia)
section
variable{X:Cx}
def strs_of:∀{zs:List Str} {us:List Value},U7 (zs.map V.str) us ->∃l:List (Str×Tok),us=strValues l/\l.map (·.1)=zs
 | [],_,r=>by cases r;exact⟨[],rfl,rfl⟩
 | z ::zs,_,r=>by
   cases r with
   | cons h t=>
     obtain⟨l,rfl,e⟩:=strs_of t
     obtain⟨k,rfl⟩:=(show∃k,_=Value.str z k from h)
     exact⟨(z,k)::l,rfl,by rw[cX,e]⟩
inductive U8w(K:Frag)(x:V)(vs:List V)(H:Hp)(Q:VK):Prop
 |mk(z l zs)(_:x= .str z)(_:vs=[.ref l])(_:SqL K H l (zs.map V.str))(_:JoinOk z zs=true)(_:Q (.str (Txt.join z zs)) H)
def B3f:MtR X "str.join" (U8w X.K):=by
 intro a s j H x vs v us Q I b c h
 obtain⟨z,l,zs,rfl,rfl,i,ok,q⟩:=h
 obtain⟨t,rfl⟩:=(show∃t,v=Value.str z t from b)
 obtain⟨u,rfl,d⟩:=c.one
 cases d
 obtain⟨f,r,g,n⟩:=I.list i
 obtain⟨m,rfl,e⟩:=strs_of r
 exact SC.join g.isList e ok fun t' k=>⟨.str _,H,I.tok _,⟨_,rfl⟩,q⟩
def part_of(h:IsPart v o):∃p:Option (Int×Tok),v=partValue p/\p.map (·.1)=o:=by
 cases h with
 |none=>exact⟨none,rfl,rfl⟩
 |int i t=>exact⟨some (i,t),rfl,rfl⟩
def B5v(x:Str)(lo a:Option Int):Str:=if((Builtin.Str.strSliceIndices lo a 1 x.length).length==x.length)=true then x else⟨((Builtin.Str.strSliceIndices lo a 1 x.length).filterMap (x.cps[·]?)).toArray⟩
inductive V3z(x:V)(lo:Option Int)(a:Option Int)(H:Hp)(Q:VK):Prop
 |mk(z)(_:x= .str z)(_:(B5v z lo a).length<=sizeLine)(_:Q (.str (B5v z lo a)) H)
def B0x:SlR X V3z:=by
 intro a s f H x v i g lo m j Q I b e pl c h
 obtain⟨z,rfl,d,q⟩:=h
 obtain⟨t,rfl⟩:=(show∃t,v=Value.str z t from b)
 obtain⟨l,rfl,rfl⟩:=part_of pl
 obtain⟨u,rfl,rfl⟩:=part_of c
 refine⟨"str",_,F.slot_str_getitem.lookup,iG _ _ _,wpAny_getItem_str_slice (l:=l) (u:=u) (st:=none) e rfl ?_⟩
 exact post_val_or_str ⟨d,fun t' k=>⟨.str _,H,I.tok _,⟨_,rfl⟩,q⟩⟩
end
structure D8y(K:Frag)(x qual:Str)(st:Stmt)(dV:Value)(f:Addr)(fd:FuncData):Prop where
 ex:∃(oc:Value) (od:Option Addr) (kV doc pm:Value) (an:Option Addr) (cdv ct:Value) (osl:Array (Option Value)),
   fd=fnOf x qual (U9 st) (U4 st) (A5 st) dV kV doc pm an cdv ct/\K.lookup f=some ⟨oc,od,.func fd,osl⟩/\codeIn K cdv qual=true
 kp:keepIn K (.ref f)=true
section
variable{P:Program}{w:World}{K:Frag}{Y:Str ->Option Value}{Z:Heap}
def D8y.okE{st:Stmt}{N ps:List Str}{k:Nat}{sp:Sp}(F:D8y K x b st p f fd)(S:B9 N ps (A5 st))(len:∀vs H Q E,sp vs H Q E ->vs.length=ps.length)(c:∀(X:Cx) (a:Value) (A:Around) (outer:List Env) (s:Shared) (H:Hp) (vs:List V) (Q:VK) (E:XK),X=A1m (CX1 P w) P w K Y Z N b (A5 st) f a A outer s H E ->A1e k X.A ->U6 X (fun C dd _ d=>E C dd d) ->sp vs H Q E ->
     ∃t,PSs (A1m (CX1 P w) P w K Y Z N b (A5 st) f a A outer s H E) (U4 st) t/\t {nx:=fun _ d=>Q .non d,rt:=Q} (A7w N vs) H):B0 P w K Y Z (CX1 P w) (k+1) f fd ps sp:=by
 obtain⟨o,n,kV,l,m,q,a,ct,e,rfl,g,j⟩:=F.ex
 exact G1v g j S len fun A outer s H vs Q E i h=>c _ a A outer s H vs Q E rfl i B7c h
def C3u{st:Stmt}{kV d e b ct:Value}(l:K.lookup f=some ⟨m,j,.func (fnOf x a (U9 st) (U4 st) (A5 st) h kV d e i b ct),g⟩)(c:codeIn K b a=true)(k:keepIn K (.ref f)=true):D8y K x a st h f (fnOf x a (U9 st) (U4 st) (A5 st) h kV d e i b ct):=⟨⟨m,j,kV,d,e,i,b,ct,g,rfl,l,c⟩,k⟩
def B4r{fd:FuncData}{ps:List Str}{o:Obj}{n:Nat}(d:fd.defaults= .ref T)(ho:K.lookup T=some o)(b:o.data= .seq a n)(h:∀us:List Value,(us++ds).length=ps.length ->∃k,bindArgs fd ⟨us,[]⟩=seqItems? fd.defaults>>=k/\k (some a)=pure (ps.zip (us++ds))):Binds K fd ps ds:=fun s us X c=>by
 obtain⟨k,f,e⟩:=h us c
 exact binds_K X d ho b f e
end
section
variable{X:Cx}{k j:Nat}{f C:Addr}{fd:FuncData}{ps ks:List Str}{sp:Sp}{EH:EK}{x m:Str}{p pos apos:Pos}{e o:Expr}{es:List Expr}{kws:List Keyword}{ta:TE}{t tk:TA}{g:List Value ->List Value ->List Value}{gV:List V ->List V ->List V}
end
section
variable{X:Cx}{K:Frag}{e:Expr}{f:Str}{pos:Pos}{ta:TE}
def A5z(h:X.K=K):IxR X (U9c K):=by subst h;exact G4
def J4q(h:X.K=K):IxR X (U9e K):=by subst h;exact A0d
def J3a(h:X.K=K)(he:PE X e ta)(a:attributeBase e f X.env (eval e X.env)=eval e X.env):PE X (.Attribute e f pos) (U4t K ta f):=by subst h;exact C7 he a
def C8t(h:X.K=K):OpR X (compareOp .In) (rIn K false):=by subst h;exact A1c
def B9r(h:X.K=K):OpR X (compareOp .NotIn) (rIn K true):=by subst h;exact B2x
end
end L2
namespace TR
open PySem L2 PySem.W PyProof.Rows
structure Own(mg:Str ->Option Value):Prop where
 isi:mg "isinstance"=none
 int_:mg "int"=none
 bool_:mg "bool"=none
 str_:mg "str"=none
 list_:mg "list"=none
 tuple_:mg "tuple"=none
 dict_:mg "dict"=none
 len_:mg "len"=none
 range_:mg "range"=none
 min_:mg "min"=none
 max_:mg "max"=none
 abs_:mg "abs"=none
 any_:mg "any"=none
 all_:mg "all"=none
 sum_:mg "sum"=none
 repr_:mg "repr"=none
 enumerate_:mg "enumerate"=none
 reversed_:mg "reversed"=none
 zip_:mg "zip"=none
 sorted_:mg "sorted"=none
 divmod_:mg "divmod"=none
 set_:mg "set"=none
 ValueError_:mg "ValueError"=none
structure Kit(K:Frag):Prop where
 int_int:kitOne K (.type "int") (.type "int")=some true
 int_bool:kitOne K (.type "int") (.type "bool")=some false
 int_str:kitOne K (.type "int") (.type "str")=some false
 int_list:kitOne K (.type "int") (.type "list")=some false
 int_tuple:kitOne K (.type "int") (.type "tuple")=some false
 int_dict:kitOne K (.type "int") (.type "dict")=some false
 bool_int:kitOne K (.type "bool") (.type "int")=some true
 bool_bool:kitOne K (.type "bool") (.type "bool")=some true
 bool_str:kitOne K (.type "bool") (.type "str")=some false
 bool_list:kitOne K (.type "bool") (.type "list")=some false
 bool_tuple:kitOne K (.type "bool") (.type "tuple")=some false
 bool_dict:kitOne K (.type "bool") (.type "dict")=some false
 str_int:kitOne K (.type "str") (.type "int")=some false
 str_bool:kitOne K (.type "str") (.type "bool")=some false
 str_str:kitOne K (.type "str") (.type "str")=some true
 str_list:kitOne K (.type "str") (.type "list")=some false
 str_tuple:kitOne K (.type "str") (.type "tuple")=some false
 str_dict:kitOne K (.type "str") (.type "dict")=some false
 list_int:kitOne K (.type "list") (.type "int")=some false
 list_bool:kitOne K (.type "list") (.type "bool")=some false
 list_str:kitOne K (.type "list") (.type "str")=some false
 list_list:kitOne K (.type "list") (.type "list")=some true
 list_tuple:kitOne K (.type "list") (.type "tuple")=some false
 list_dict:kitOne K (.type "list") (.type "dict")=some false
 tuple_int:kitOne K (.type "tuple") (.type "int")=some false
 tuple_bool:kitOne K (.type "tuple") (.type "bool")=some false
 tuple_str:kitOne K (.type "tuple") (.type "str")=some false
 tuple_list:kitOne K (.type "tuple") (.type "list")=some false
 tuple_tuple:kitOne K (.type "tuple") (.type "tuple")=some true
 tuple_dict:kitOne K (.type "tuple") (.type "dict")=some false
 dict_int:kitOne K (.type "dict") (.type "int")=some false
 dict_bool:kitOne K (.type "dict") (.type "bool")=some false
 dict_str:kitOne K (.type "dict") (.type "str")=some false
 dict_list:kitOne K (.type "dict") (.type "list")=some false
 dict_tuple:kitOne K (.type "dict") (.type "tuple")=some false
 dict_dict:kitOne K (.type "dict") (.type "dict")=some true
 NoneType_int:kitOne K (.type "NoneType") (.type "int")=some false
 NoneType_bool:kitOne K (.type "NoneType") (.type "bool")=some false
 NoneType_str:kitOne K (.type "NoneType") (.type "str")=some false
 NoneType_list:kitOne K (.type "NoneType") (.type "list")=some false
 NoneType_tuple:kitOne K (.type "NoneType") (.type "tuple")=some false
 NoneType_dict:kitOne K (.type "NoneType") (.type "dict")=some false
def scK{N P:List Str}{h:Scope}(a:h.kind= .function:=by rfl)(b:h.isCoroutine=false:=by rfl)(c:h.isGenerator=false:=by rfl)(d:N.Nodup:=by decide+kernel)(e:N.take P.length=P:=by rfl)(f:∀x∈P,h.names.lookup x=some .local\/h.names.lookup x=some .cell:=by decide+kernel)(g:∀y∈h.names,y.2≠ .free:=by decide+kernel):B9 N P h:=⟨a,b,c,d,e,f,g⟩
def G1e{K:Frag}(i:Int):TyE K H (.int i) (.type "int"):= .of (.int i)
def C0m{K:Frag}(z:Str):TyE K H (.str z) (.type "str"):= .of (.str z)
def G0v{K:Frag}{H:Hp}(h:H a=some (.lst xs)):TyE K H (.ref a) (.type "list"):= .of (.lst h)
def A9e.same{K:Frag}(h:A9e K H x t)(e:C9 H g):A9e K g x t:=by
 cases h with
 |non=>exact .non
 |bl x=>exact .bl x
 |int i=>exact .int i
 |str x=>exact .str x
 |flt x=>exact .flt x
 |lst z=>exact .lst (e _ _ z)
 |frz z=>exact .frz (e _ _ z)
 |tup z=>exact .tup (e _ _ z)
 |dK z=>exact .dK (e _ _ z)
 |dT z=>exact .dT (e _ _ z)
 |ins z a b c d f=>exact .ins (e _ _ z) a b c d f
def TyE.same{K:Frag}(h:TyE K H x t)(e:C9 H a):TyE K a x t:=by
 cases h with
 |of h=>exact .of (A9e.same h e)
 |exc z k=>exact .exc (e _ _ z) k
 |excD z d k=>exact .excD (e _ _ z) (e _ _ d) k
 |tupK l c=>exact .tupK l c
inductive A9d(lo a:Int)(v:V):Prop
 |mk(i)(_:v= .int i)(_:lo<=i)(_:i<=a)
inductive B4s(K:Frag)(H:Hp)(lo b:Int)(v:V):Prop
 |mk(t a b2)(_:TyE K H v t)(_:kitOne K t (.type "int")=some a)(_:kitOne K t (.type "bool")=some b2)(_:(a&& !b2)=false\/∃i,v= .int i/\(i<lo\/b<i))
section
variable{K:Frag}{H:Hp}{lo hi:Int}
def B6f(T:Kit K){i:Int}(h:i<lo\/hi<i):B4s K H lo hi (.int i):=⟨_,_,_,G1e i,T.int_int,T.int_bool,.inr ⟨i,rfl,h⟩⟩
end
def Exc(p:Addr)(H a:Hp):Prop:=∀b o,H b=some o ->b≠p ->a b=some o
def Exc.refl(p:Addr)(H:Hp):Exc p H H:=fun _ _ h _=>h
def Exc.trans(a:Exc p H e)(b:Exc p e d):Exc p H d:=fun c o h n=>b c o (a c o h n) n
def Exc.upd:Exc p H (L2.upd H p o):=fun b u e n=>by rw[D8 n];exact e
def Exc.of(s:C9 H a):Exc p H a:=fun b o h _=>s b o h
inductive Has(P:Program)(w:World)(K:Frag)(mg:Str ->Option Value)(base:Heap)(C:Addr)(m:Str)(k:Nat)(ps:List Str)(sp:Sp):Prop
 |mk(f fd)(_:B3j K C m f)(_:B0 P w K mg base (CX1 P w) k f fd ps sp)(_:Binds K fd ps [])
def V3j:∀{us:List Value},us.length=1 ->∃a,us=[a]
 | [a],_=>⟨a,rfl⟩
def J8j{us:List Value}(h:us.length=2):∃a b,us=[a,b]:=by
 obtain⟨a,t,rfl⟩:=cM h
 obtain⟨b,t,rfl⟩:=cM (iM h)
 exact⟨a,b,by rw[jF (iM (iM h))]⟩
def J1w{us:List Value}(h:us.length=3):∃a b c,us=[a,b,c]:=by
 obtain⟨a,t,rfl⟩:=cM h
 obtain⟨b,c,e⟩:=J8j (iM h)
 exact⟨a,b,c,by rw[e]⟩
def U8e{us:List Value}(h:us.length=4):∃a b c d,us=[a,b,c,d]:=by
 obtain⟨a,t,rfl⟩:=cM h
 obtain⟨b,c,d,e⟩:=J1w (iM h)
 exact⟨a,b,c,d,by rw[e]⟩
def V3n{us:List Value}(h:us.length=5):∃a b c d e,us=[a,b,c,d,e]:=by
 obtain⟨a,t,rfl⟩:=cM h
 obtain⟨b,c,d,e,z⟩:=U8e (iM h)
 exact⟨a,b,c,d,e,by rw[z]⟩
def C6b{us ds:List Value}{n:Nat}(h:(us++ds).length=n):us.length=n-ds.length:=by rw[aG] at h;lia
end TR
namespace L2
open PySem PySem.Spec PyProof.Rows
section
variable{κ:Type} [DecidableEq κ]
def C2u(kvs:List (κ×V))(k:κ):Option V:=(kvs.find? fun a=>decide (a.1=k)).map (·.2)
def G3u{p:κ×V}{r:List (κ×V)}{k:κ}(e:p.1=k):C2u (p::r) k=some p.2:=by simp[C2u,fF,e]
def G0x{p:κ×V}{r:List (κ×V)}{k:κ}(e:¬p.1=k):C2u (p::r) k=C2u r k:=by simp[C2u,fF,e]
def A7y.isSome_eq{o:Option V}{u:Option Value}(r:A7y o u):o.isSome=u.isSome:=by
 cases o with
 | none=>cases u with
   |none=>rfl
   |some _=>exact(show False from r).elim
 | some _=>cases u with
   |none=>exact(show False from r).elim
   |some _=>rfl
def KV.val(r:KV kvs vs)(k:κ):A7y (C2u kvs k) (valueAt vs k):=by
 unfold KV at r
 induction r with
 |nil=>exact True.intro
 | @cons p q ps a h t f=>
   obtain⟨d,g⟩:=h
   by_cases e:p.1=k
   . have c:q.1=k:=d.symm.trans e
     have b:valueAt (q::a) k=some q.2:=by simp[valueAt,fF,c]
     rw[G3u e,b];exact g
   . have c:¬q.1=k:=fun z=>e (d.trans z)
     have b:valueAt (q::a) k=valueAt a k:=by simp[valueAt,fF,c]
     rw[G0x e,b];exact f
end
section
variable{P:Program}{w:World}{H:Hp}{h:Heap}{a:Addr}
end
section
variable{X:Cx}{pins:List (Addr×Obj)}{σ:St}{H:Hp}{s:Shared}{a:Addr}{y v:V}{u r:Value}{o:Option V}{A:Around}{E:Value ->Shared ->Prop}
end
section
variable{X:Cx}{pins:List (Addr×Obj)}{σ:St}{H:Hp}{s:Shared}{a:Addr}{kvs:List (Key×V)}{k:Key}{u:Value}{A:Around}{E:Value ->Shared ->Prop}
end
section
variable{X:Cx}{o i e value:Expr}{pos pos' tpos:Pos}{td ty tv:TE}
end
section
variable{X:Cx}{pos:Pos}
end
end L2
namespace L2
open PySem PySem.Spec PyProof.Rows PySem.W
def A8k(F:List Str)(env:Env):List (Str×Addr):=F.map fun x=>(x,(env.cells.lookup x).getD 0)
def B5y(js:List Nat)(a:St):St:=js.map fun j=>(a[j]?).getD none
abbrev Cx.compF(X:Cx)(scope:Scope)(N F:List Str)(C:Addr)(s₀:Shared)(H₀:Hp)(ex:List Addr)(pins:List (Addr×Obj)):Cx:=
 {X with N:=N++F,s₀:=s₀,H₀:=H₀,env:=compEnvC scope (A8k F X.env) C X.env,outer:=X.stack,ex:=ex,fn:=fun _=>false,pn:=pins,xe:=fun _ _=>False}
structure U1(N F:List Str)(js:List Nat)(sc:Scope)(XN:List Str)(env:Env):Prop where
 kind:sc.kind= .function
 cell:∀y∈sc.names,y.2≠ .cell
 loc:∀y∈sc.names,y.2= .local ->sc.names.lookup y.1=some .local
 nd:(N++F).Nodup
 clos:closureFor sc env=pure (A8k F env)
 fr:∀y∈(relabel sc env).names,y.2= .cell\/y.2= .free ->y.1∈F
 at_:∀(k:Nat) (x:Str),F[k]?=some x ->(∃j:Nat,js[k]?=some j/\XN[j]?=some x)/\(∃c,env.cells.lookup x=some c)/\env.kindOf x=some .cell/\(relabel sc env).names.lookup x=some .cell
 jl:js.length=F.length
def C4k(n:Nat)(js:List Nat)(k:TI)(g:TG)(tc:TT)(l:TE):TE:=fun d H Q=>k d H fun J j=>∀D,j D=none ->
 ∃ (m:Nat) (W:Nat ->List V ->Hp ->Prop),W 0 [] (upd j D (.lst []))/\∀i ys a,W i ys a ->i<=m/\a D=some (.lst ys)/\((J.stop i a/\Q (.ref D) a)\/(i<m/\J.go i a/\∀x h,J.yld i a x h ->
   g x (List.replicate n none++B5y js d) h fun c o=>tc c o fun b f=>if b=true then l c f fun y e=>e D=some (.lst ys)/\ys.length<sizeLine/\W (i+1) (ys++ [y]) (upd e D (.lst (ys++ [y]))) else W (i+1) ys f))
def C2r(n:Nat)(js:List Nat)(h:TI)(g:TG)(j:TE):TE:=fun c H Q=>h c H fun J f=>∀D,f D=none ->
 ∃ (m:Nat) (W:Nat ->List V ->Hp ->Prop),W 0 [] (upd f D (.lst []))/\∀i ys a,W i ys a ->i<=m/\a D=some (.lst ys)/\((J.stop i a/\Q (.ref D) a)\/(i<m/\J.go i a/\∀x e,J.yld i a x e ->
   g x (List.replicate n none++B5y js c) e fun b k=>j b k fun y d=>d D=some (.lst ys)/\ys.length<sizeLine/\W (i+1) (ys++ [y]) (upd d D (.lst (ys++ [y])))))
def U0t{env:Env}(h:(A8k F env).lookup x=some c):x∈F/\c=(env.cells.lookup x).getD 0:=by
 have:=PySem.mem_of_lookup h
 obtain⟨y,a,e⟩:=eK.mp this
 cases e
 exact⟨a,rfl⟩
def G4b{env:Env}:∀{F:List Str},x∈F ->(A8k F env).lookup x=some ((env.cells.lookup x).getD 0)
 | y ::F,h=>by
   show List.lookup x ((y,(env.cells.lookup y).getD 0)::A8k F env)=_
   by_cases e:x=y
   . subst e;simp[List.lookup]
   . have a:(x==y)=false:=cO.mpr e
     rw[List.lookup_cons,a]
     exact G4b (by rcases bM.mp h with z|z;exact absurd z e;exact z)
section
variable{X:Cx}{N F:List Str}{js:List Nat}{scope:Scope}
def U1.sub(S:U1 N F js scope X.N X.env):∀x c,(A8k F X.env).lookup x=some c ->X.env.cells.lookup x=some c:=fun x c z=>by
 obtain⟨a,rfl⟩:=U0t z
 obtain⟨k,b⟩:=List.mem_iff_getElem?.mp a
 obtain⟨_,⟨c,d⟩,_⟩:=S.at_ k x b
 rw[d];rfl
def U1.has(S:U1 N F js scope X.N X.env)(a:x∈F):∃c,(A8k F X.env).lookup x=some c/\X.env.cells.lookup x=some c:=
 ⟨_,G4b a,S.sub _ _ (G4b a)⟩
def C0p{s:Shared}(S:U1 N F js scope X.N X.env)(I:Inv X h d H s){h':Heap}(A:∀x c v,X.env.cells.lookup x=some c ->s.heap.IsCell c v ->h'.IsCell c v):
   ∀(i:Nat) (x:Str) (v:V),(N++F)[i]?=some x ->(List.replicate N.length none++B5y js d)[i]?=some (some v) ->∃u,Y3 v u/\U8p (compEnvC scope (A8k F X.env) C X.env) h' m x u:=by
 intro i x v g a
 by_cases z:i<N.length
 . rw[cH (by simpa using z),List.getElem?_replicate] at a
   split at a<;>cases a
 rw[cG (by lia)] at g
 rw[cG (by simp;lia)] at a
 rw[cZ] at a
 obtain⟨⟨j,y,t⟩,⟨c,b⟩,n,p⟩:=S.at_ _ x g
 unfold B5y at a
 rw[eX,y] at a
 have a:(d[j]?).getD none=some v:=bF a
 have B:d[j]?=some (some v):=by
   cases q:d[j]? with
   |none=>rw[q] at a;cases a
   |some o=>rw[q] at a;exact aM some a
 obtain⟨E,_,w⟩:=I.loc
 obtain⟨u,r,l⟩:=w j x v t B (.inr (.inl n))
 refine⟨u,r,.inr ⟨.inl p,c,?_,?_⟩⟩
 . obtain⟨D,f,e⟩:=S.has (cF g)
   rw[b] at e
   cases e
   exact f
 rcases l with⟨k,_⟩|⟨_,D,f,e⟩
 . rw[n] at k;cases k
 rw[b] at f
 cases f
 exact A x c _ b e
def G3e(S:U1 N F js scope X.N X.env)(a:St):(List.replicate N.length none++B5y js a:St).length=(N++F).length:=by
 unfold B5y
 rw[aG,cZ,aP,S.jl,aG]
end
structure G4x(N F:List Str)(sc:Scope):Prop where
 kind:sc.kind= .function
 cell:∀y∈sc.names,y.2≠ .cell
 loc:∀y∈sc.names,y.2= .local ->sc.names.lookup y.1=some .local
 fr:∀y∈sc.names,y.2= .free ->y.1∈F
 nd:(N++F).Nodup
def B0v{b:Scope}{env:Env}{F:List Str}(a:∀y∈b.names,y.2≠ .cell)(fr:∀y∈b.names,y.2= .free ->y.1∈F):∀y∈(relabel b env).names,y.2= .cell\/y.2= .free ->y.1∈F:=by
 intro y f h
 obtain⟨⟨n,k⟩,c,e⟩:=eK.mp f
 dsimp only at e
 split at e
 . rename_i d
   subst e
   simp only[cK] at d
   exact fr (n,k) c (by simpa using d.1.1)
 subst e
 rcases h with h|h
 . exact absurd h (a (n,k) c)
 exact fr (n,k) c h
def U1.of1{j:Nat}{env:Env}(S:G4x N [x] b)(a:closureFor b env=pure (A8k [x] env))(f:i[j]?=some x)(g:∃c,env.cells.lookup x=some c)(e:env.kindOf x=some .cell)(d:(relabel b env).names.lookup x=some .cell):U1 N [x] [j] b i env:=
 ⟨S.kind,S.cell,S.loc,S.nd,a,B0v S.cell S.fr,fun k y h=>match k,h with
   |0,h=>by cases h;exact⟨⟨j,rfl,f⟩,g,e,d⟩
   |k+1,h=>by simp at h,rfl⟩
def U1.of2{j k:Nat}{env:Env}(S:G4x N [x,y] b)(a:closureFor b env=pure (A8k [x,y] env))(o:l[j]?=some x)(p:∃c,env.cells.lookup x=some c)(n:env.kindOf x=some .cell)(m:(relabel b env).names.lookup x=some .cell)(f:l[k]?=some y)(g:∃c,env.cells.lookup y=some c)(e:env.kindOf y=some .cell)(d:(relabel b env).names.lookup y=some .cell):U1 N [x,y] [j,k] b l env:=
 ⟨S.kind,S.cell,S.loc,S.nd,a,B0v S.cell S.fr,fun i z h=>match i,h with
   |0,h=>by cases h;exact⟨⟨j,rfl,o⟩,p,n,m⟩
   |1,h=>by cases h;exact⟨⟨k,rfl,f⟩,g,e,d⟩
   |i+2,h=>by simp at h,rfl⟩
def A1p(z:Str):∀zs:List Str,inV (.str z) (zs.map V.str)=zs.contains z
 | []=>rfl
 | y::zs=>by
   show(eqV (.str y) (.str z)||inV (.str z) (zs.map V.str))=_
   rw[A1p z zs,List.contains_cons]
   show((y==z)||_)=_
   rw[BEq.comm]
def A3b:∀zs:List Str,(zs.map V.str).all B1q=true
 | []=>rfl
 |_::zs=>A3b zs
def D9v{K:Frag}{H:Hp}{zs:List Str}{f:Str ->Bool}{tc:TT}{h:TE}{Q:VK}(d:∀H,SqT K H a (zs.map V.str))(v:zs.length<=100)(s:∀(z:Str) (c:Hp) (o:Bool ->Hp ->Prop),C9 H c ->o (f z) c ->tc (some (.str z)::σf) c o)(he:∀(z:Str) (c:Hp) (n:VK),n (.str z) c ->h (some (.str z)::σf) c n)(k:∀D c,C9 H c ->H D=none ->c D=some (.lst ((zs.filter f).map V.str)) ->Q (.ref D) c)(t:B5y js q=σf):C4k 1 js (U8j K (tC (.ref a))) (C0u 0) tc h q H Q:=by
 refine⟨a,rfl,⟨_,d H⟩,fun D l=>⟨zs.length,fun i ys p=>i<=zs.length/\ys=((zs.take i).filter f).map V.str/\p=upd H D (.lst ys),⟨bP _,rfl,rfl⟩,?_⟩⟩
 rintro i ys p ⟨u,rfl,rfl⟩
 refine⟨u,A6,?_⟩
 have j:C9 H (upd H D (.lst (((zs.take i).filter f).map V.str))):=C9.upd l
 have r:(((zs.take i).filter f).map V.str).length<=100:=by
   rw[aP]
   exact bS (gI _ _) (by rw[cR];lia)
 by_cases b:i<zs.length
 . refine .inr ⟨b,⟨_,V.str zs[i],d _,by simp[b]⟩,fun x w y=>?_⟩
   obtain⟨rfl,y⟩:=y
   have ex:x=V.str zs[i]:=by
     have:=y _ (d _)
     simp[b] at this
     exact this.symm
   subst ex
   rw[t]
   show tc (some (.str zs[i])::σf) _ _
   refine s _ _ _ j ?_
   have m:(zs.take (i+1)).filter f=(zs.take i).filter f++(if f zs[i] then [zs[i]] else []):=by
     rw[iN b,jN]
     congr 1
     cases g:f zs[i]<;>simp[g]
   cases g:f zs[i] with
   | false=>
     refine V4 ⟨b,?_,rfl⟩
     rw[m,g];simp
   | true=>
     refine Y9 (he _ _ _ ⟨A6,aW r (A0u (by decide)),b,?_,?_⟩)
     . rw[m,g];simp
     . rw[J5k]
 have e:i=zs.length:=by lia
 subst e
 refine .inl ⟨⟨_,d _,by simp⟩,k D _ j l ?_⟩
 rw[eV]
 exact A6
end L2
namespace L2
open PySem
section
variable{prog:Program}{w:World}{A:Around}{E:Value ->Shared ->Prop}{h:Heap}{g:Array GenState}{d:Drawn}{t:Nat}{os:OsState}
variable{nm q:Str}{C N:Addr}{bs bm bmB:List Value}{hdct:Bool}{sn:List Str}{sub:List Value}{ab:Bool}{col:Option Bool}{dd:Option Addr}{k0 k1 k2 k3 k5:Option Value}{B newId initId:String}
def B0f(F:ExcBaseFacts B newId initId bmB)(T:OwnTail h bmB bm){mN:Str ->Option Value}{a:List Value}{oI:Obj}{Q:Fin ->Shared ->Prop}(k:h.get? C=some (excClassObj nm q C N bs bm hdct sn sub ab col dd k0 k1 k2 k3 k5 newId))(z:h.Ns N mN)(D:mN "__init__"=some (.ref u))(n:h.get? u=some oI)(m:oI.cls= .type "function")(y:∀h' e,Heap.MadeExcOf h h' e (.ref C) a ->
     wpAny (model prog w) A (call (.ref u) (.ref e::a)) (fun r s=>r= .none/\Q (.done (.ret (.ref e))) s) E ⟨h',g,d,t,os⟩)(hrest:a.length<=sizeLine):
   wpAny (model prog w) A (Builtin.«type.__call__» ⟨.ref C :: a, []⟩) Q E ⟨h, g, d, t, os⟩ := by
 repeat (first|with_reducible refine gM k ?_|with_reducible refine wpAny_madeBy_exc k ?_|wp_step)
 refine codeAny_call_builtin_code (Code.quiet_builtin _ F.quiet) (wpAny_check_new_subT F T k ?_)
 refine codeAny_exc_new_subT F T k ?_ hrest
 show wpAny _ _ _ _ _ _
 have c:=aF {cls:= .ref C,data:= .fields #[.ref h.objs.size,.none,.none,.none,.bool false,.none]}
   (aF {cls:= .type "tuple",data:= .seq a.toArray} k)
 have f:=aF {cls:= .ref C,data:= .fields #[.ref h.objs.size,.none,.none,.none,.bool false,.none]}
   (aF {cls:= .type "tuple",data:= .seq a.toArray} n)
 have j:((h.push {cls:= .type "tuple",data:= .seq a.toArray}).push {cls:= .ref C,data:= .fields #[.ref h.objs.size,.none,.none,.none,.bool false,.none]}).Ns N mN:=
   let⟨o,I,J,e,r⟩:=z;⟨o,I,J,aF _ (aF _ e),r⟩
 have i:((h.push {cls:= .type "tuple",data:= .seq a.toArray}).push
     {cls:= .ref C,data:= .fields #[.ref h.objs.size,.none,.none,.none,.bool false,.none]}).get? (h.objs.size+1)=some
     {cls:= .ref C,data:= .fields #[.ref h.objs.size,.none,.none,.none,.bool false,.none]}:=by heap_get
 have p:(Value.ref C::bm).contains (.ref C)=true:=by simp
 have l:=T.keeps (h':=(h.push {cls:= .type "tuple",data:= .seq a.toArray}).push {cls:= .ref C,data:= .fields #[.ref h.objs.size,.none,.none,.none,.bool false,.none]})
   fun b o e=>aF _ (aF _ e)
 unfold isInstance
 repeat (first|with_reducible refine gM i ?_|(with_reducible refine wpAny_isSubtype_exc c ?_;rw[p])|wp_step)
 show wpAny _ _ (typeLookup (.ref C) _) _ _ _
 refine wpAny_typeLookup_tail c j l F.mroIs F.init.lookup ?_
 rw[D]
 refine eI (aE ?_)
 unfold bindSpecial
 refine aE (wpAny_typeOf (T:="function") ⟨_,f,m⟩ ?_)
 rw[aC (by decide)]
 refine aR (aE (bX (y _ (h.objs.size+1) ⟨fun b o G=>aF _ (aF _ G),fG (iI _),h.objs.size,i,fG (aO _),?_⟩) (fun r s v=>?_) fun _ _ x=>x))
 . exact aF _ (Heap.get?_push_at rfl rfl)
 obtain⟨rfl,H⟩:=v
 wp_walk
 exact H
def B8k(F:ExcBaseFacts B newId initId bmB)(T:OwnTail h bmB bm){mN:Str ->Option Value}{a:List Value}{oI:Obj}{Q:Value ->Shared ->Prop}(b:h.get? C=some (excClassObj nm q C N bs bm hdct sn sub ab col dd k0 k1 k2 k3 k5 newId))(l:h.Ns N mN)(n:mN "__init__"=some (.ref i))(f:h.get? i=some oI)(c:oI.cls= .type "function")(k:∀h' e,Heap.MadeExcOf h h' e (.ref C) a ->
     wpAny (model prog w) (A.under (.builtin "type.__call__" ⟨.ref C::a,[]⟩)) (call (.ref i) (.ref e::a)) (fun r j=>r= .none/\Q (.ref e) j) E ⟨h',g,d,t,os⟩)(hrest:a.length<=sizeLine):
   wpAny (model prog w) A (call (.ref C) a) Q E ⟨h,g,d,t,os⟩:=by
 have s:=tc_lookup
 have p:=tc_bind (.ref C)
 have o:(⟨h,g,d,t,os⟩:Shared).TypeIs (.ref C) "type":=⟨_,b,rfl⟩
 refine gE (codeAny_of_tree ?_)
 show wpAny _ _ (callAny (.ref C) _) _ _ _
 repeat (any_goals (first|assumption|with_reducible refine gM b ?_|wp_step))
 refine⟨rfl,?_⟩
 refine codeAny_call_builtin_at (Code.quiet_builtin _ (by decide+kernel)) entry_typeCall (wpAny_check_type_call_sub b (B0f (hrest:=hrest) F T b l n f c fun h' e m=>?_))
 exact k h' e m
end
section
variable{M:Model}{prog:Program}{w:World}{A:Around}{E:Value ->Shared ->Prop}{s:Shared}{env:Env}
variable{nm q:Str}{C N:Addr}{bs bm bmB:List Value}{hdct:Bool}{sn:List Str}{sub:List Value}{ab:Bool}{col:Option Bool}{dd:Option Addr}{k0 k1 k2 k3 k5:Option Value}{B newId initId:String}
def A8c(b:bm.contains (.type "BaseException")=true)(hh:A.handled=none)(h:wpAny M A x (fun v a=>∃e t j,v= .ref e/\a.heap.get? C=some (excClassObj nm q C N bs bm hdct sn sub ab col dd k0 k1 k2 k3 k5 newId)/\
     a.heap.get? e=some {cls:= .ref C,dict:=j,data:= .fields #[.ref t,.none,.none,.none,.bool false,.none]}/\E (.ref e) a) E s):
   wpAny M A (raiseStmt env (some x) none) Q E s:=by
 have f:(Value.ref C::bm).contains (.type "BaseException")=true:=by rw[List.contains_cons,b,Bool.or_true]
 unfold raiseStmt
 refine aE (bX h (fun v a c=>?_) fun _ _ x=>x)
 obtain⟨e,t,j,rfl,i,he,k⟩:=c
 obtain⟨l,g,d,tk,os⟩:=a
 repeat (first|with_reducible refine gM he ?_|with_reducible refine gM i ?_|(with_reducible refine wpAny_isSubtype_exc i ?_;rw[f])|wp_step)
 exact wpAny_raiseNew_none hh k
def B4d(F:ExcBaseFacts B newId initId bmB){mN:Str ->Option Value}{oI:Obj}(m:bm.contains (.type "BaseException")=true)(hh:A.handled=none)(n:(backTo o (starEach args env)).any (·.1)=false)(U:mN "__init__"=some (.ref J))(y:oI.cls= .type "function")(h:wpAny (model prog w) A (eval (.Name x O) env) (fun f j=>f= .ref C/\wpAny (model prog w) A (evalArgs (.ref C) true (backTo o (starEach args env)) [])
     (fun a b=>a.kw=[]/\a.pos.length<=sizeLine/\b.heap.get? C=some (excClassObj nm q C N bs bm hdct sn sub ab col dd k0 k1 k2 k3 k5 newId)/\b.heap.Ns N mN/\OwnTail b.heap bmB bm/\b.heap.get? J=some oI/\
       ∀ h' e,Heap.MadeExcOf b.heap h' e (.ref C) a.pos ->wpAny (model prog w) (A.under (.builtin "type.__call__" ⟨.ref C::a.pos,[]⟩)) (call (.ref J) (.ref e::a.pos))
         (fun r c=>r= .none/\c.heap.get? C=some (excClassObj nm q C N bs bm hdct sn sub ab col dd k0 k1 k2 k3 k5 newId)/\(∃t G,c.heap.get? e=some {cls:= .ref C,dict:=G,data:= .fields #[.ref t,.none,.none,.none,.bool false,.none]})/\E (.ref e) c) E {b with heap:=h'}) E j) E s):
   wpAny (model prog w) A (exec (.Raise (some (.Call (.Name x O) args [] o)) none pos) env) Q E s:=by
 rw[arm_exec_Raise]
 first
   |refine aE (fw (A8c (C:=C) (nm:=nm) (q:=q) (N:=N) (bs:=bs) (bm:=bm) (hdct:=hdct) (sn:=sn) (sub:=sub) (ab:=ab) (col:=col) (dd:=dd) (k0:=k0) (k1:=k1) (k2:=k2) (k3:=k3) (k5:=k5) (newId:=newId) m hh (aE (bX (wpAny_Call_ofName (bX h (fun f j i=>?_) fun _ _ x=>x)) (fun v c k=>aE (fw (aR k))) fun _ _ x=>x))))
   |(simp only[evalOpt,Option.map];refine aE (fw (A8c (C:=C) (nm:=nm) (q:=q) (N:=N) (bs:=bs) (bm:=bm) (hdct:=hdct) (sn:=sn) (sub:=sub) (ab:=ab) (col:=col) (dd:=dd) (k0:=k0) (k1:=k1) (k2:=k2) (k3:=k3) (k5:=k5) (newId:=newId) m hh (aE (bX (wpAny_Call_ofName (bX h (fun f j i=>?_) fun _ _ x=>x)) (fun v c k=>aE (fw (aR k))) fun _ _ x=>x)))))
 obtain⟨rfl,i⟩:=i
 unfold callWith
 refine aE (eI (bX i (fun a b l=>aE (fw ?_)) fun _ _ x=>x))
 obtain⟨L,H⟩:=a
 obtain⟨u,p,I,P,T,W,l⟩:=l
 obtain rfl:H=[]:=u
 obtain⟨Y,g,d,tk,os⟩:=b
 simp only[n]
 refine aE (wpAny_keeperOf_exc I ?_)
 refine aE (B8k F T I P U W y (fun h' e R=>bX (l h' e R) (fun r c z=>⟨z.1,aE (eI (wpAny_point (aR ?_)))⟩) fun _ _ x=>x) p)
 obtain⟨_,D,⟨t,G,he⟩,X⟩:=z
 exact⟨e,t,G,rfl,D,he,X⟩
end
end L2
namespace L2
open PySem PySem.Spec PyProof.Rows PySem.W
abbrev D4y:List Value:=[.type "ValueError",.type "Exception",.type "BaseException",.type "object"]
structure D8z(K:Frag)(C fI:Addr):Prop where
 cls:∃nm q N bs bm sn sub ab col dd k0 k1 k2 k3 k5,K.lookup C=some (excClassObj nm q C N bs bm true sn sub ab col dd k0 k1 k2 k3 k5 "ValueError.__new__")/\nsOkIn K N=true/\nsIn K N "__init__"=some (some (.ref fI))/\tailIn K D4y bm=true
 fn:∃o,K.lookup fI=some o/\o.cls= .type "function"
 sa:findIn K (.ref C) "__setattr__"=some (some (.builtin "object.__setattr__"))
 ob:mroIn K C (.type "object")=some true
def D0b{K:Frag}{h:Heap}{Y:Str ->Option Value}(X:K.In h)(G:h.Ns N Y)(e:nsIn K N n=some (some v)):Y n=some v:=by
 obtain⟨o,j,k,ho,b,_,a⟩:=G
 unfold nsIn at e
 split at e
 . rename_i c d f i g q
   have:=X _ _ q
   rw[ho] at this
   cases this
   cases b
   split at e
   . rename_i l he
     cases e
     rw[<-a]
     unfold nsFind findBy
     rw[<-Array.find?_toList,he]
     rfl
   . split at e<;>cases e
 cases e
def B5g(self:Value):∀{l:List Value},OwnTail h D4y l ->refuseLoop self "__setattr__" l=pure ()
 |_,.base=>F.store_ValueError.passes self
 |_,.own _ _ _ t=>by rw[refuseLoop_ref];exact B5g self t
section
variable{prog:Program}{w:World}{A:Around}{s:Shared}{K:Frag}{C e fI:Addr}{t:Addr}{R:Result ->Shared ->Prop}{name:Str}{tk:Tok}{v:Value}
def J2h(X:K.In s.heap)(F:D8z K C fI)(he:s.heap.get? e=some (A1u (.ref C) t none .none))(G:findIn K (.ref C) name=some none)(h:∀h' j d,(∀b k,b≠e ->s.heap.get? b=some k ->h'.get? b=some k) ->h'.get? e=some (A1u (.ref C) t (some d) .none) ->h'.Ns1 d (fun y=>if y=name then some v else none) ->s.heap.get? d=none ->d≠e ->
     R (.ok (.ret .none)) {s with heap:=h',toks:=j}):
   codeAny (model prog w) A (.call (.builtin "object.__setattr__") ⟨[.ref e,.str name tk,v],[]⟩) R s:=by
 have i:=PySem.F.store_object
 obtain⟨nm,q,N,bs,bm,sn,sub,ab,col,dd,k0,k1,k2,k3,k5,x,P,Q,E⟩:=F.cls
 have T:=X _ _ x
 have I:PySem.W.InstAt s.heap e (A1u (.ref C) t none .none) C none:=⟨he,rfl,rfl,trivial⟩
 have B:clsIn K C=some {name:=nm,bases:=bs,mro:= .ref C::bm,ns:=N,qualname:=q,hasDict:=true,slotNames:=sn,subclasses:=sub,abstract:=ab,collection:=col,hasDel:=false}:=by
   unfold clsIn
   rw[x]
 have f:Looks (model prog w) s.heap (isInstance (.ref e) (.type "object")) true:=I.type.andThen (looks_mroIn X F.ob)
 refine gY i.slot.plain i.entry (@check_slot (model prog w) _ _ s "object.__setattr__" "object" "__setattr__" (.ref e) [.str name tk,v] [] _ i.kind i.split f (i.args (.ref e) (.str name tk) v) ?_)
 have H:Looks (model prog w) s.heap (mroOf (.ref C)) (.ref C::bm):=(looks_clsIn X B).andThen .now
 have M:Looks (model prog w) s.heap (Builtin.ObjectAttr.storeTaker? none) none:= .now
 rw[osa_eq,refuse_eq]
 refine aE (aE (I.type.here (aE (H.here ?_))))
 rw[refuseLoop_ref,B5g _ (tail_of_in X E)]
 refine aR (aE (I.type.here (aE ((jK X G).here (aE (M.here ?_))))))
 dsimp only
 refine aE (aR (aE (aE (wpAny_loadPart he (aE (PySem.W.Looks.here (PySem.W.looks_clsIn X B) ?_))))))
 have a:(s.heap.push {cls:= .type "dict",data:= .dict #[]}).get? e=some (A1u (.ref C) t none .none):=aF _ he
 have c:e≠s.heap.objs.size:=cA (bA he)
 show wpAny (model prog w) A.in1 (do
     let d<-alloc {cls:=Value.type "dict",data:=Data.dict #[]}
     update e fun o=>{cls:=o.cls,dict:=some d,data:=o.data,slots:=o.slots}
     pure (some d)) _ _ _
 refine aE (wpAny_alloc' ?_)
 refine aE (wpAny_update' a ?_)
 refine aR ?_
 have n:((s.heap.push {cls:= .type "dict",data:= .dict #[]}).update e fun o=>{cls:=o.cls,dict:=some s.heap.objs.size,data:=o.data,slots:=o.slots}).get? s.heap.objs.size
     =some {cls:= .type "dict",data:= .dict #[]}:=
   (Heap.get?_update_ne _ _ _ _ c.symm).trans (Heap.get?_push_at rfl rfl)
 have hnd:((s.heap.push {cls:= .type "dict",data:= .dict #[]}).update e fun o=>{cls:=o.cls,dict:=some s.heap.objs.size,data:=o.data,slots:=o.slots}).Ns s.heap.objs.size (fun _=>none):=
   ⟨_, #[],_,n,rfl,fun e he=>absurd he (by simp),fun _=>rfl⟩
 show wpAny _ _ (Builtin.ObjectAttr.storeInDict s.heap.objs.size (.str name tk) name v) _ _ _
 unfold Builtin.ObjectAttr.storeInDict Builtin.ObjectAttr.newKeyGuard
 refine aE (aR (aE (wpAny_nsSet1 (Heap.Ns1.of_empty hnd) fun h' g z=>?_)))
 obtain⟨O,J,L,m,p,r⟩:=g.count (Within.cons name v Within.nil)
 refine aE (wpAny_lookBehind m (by rw[p];exact pastItsLine_dict (bS r (by rw[bK,List.length_nil,sizeLine_eq];lia))) ?_)
 have l:h'.get? e=some (A1u (.ref C) t (some s.heap.objs.size) .none):=(z.2 e c).trans (fD _ a rfl)
 refine aR (h h' _ s.heap.objs.size (fun b k u D=>?_) l g (fG (aO _)) c.symm)
 exact(z.2 b (cA (bA D))).trans ((Heap.get?_update_ne _ _ _ _ u).trans (aF _ D))
end
def A5q(e C t:Addr)(d:Option Addr):Heap ->Prop:=fun h=>h.get? e=some (A1u (.ref C) t d .none)
def G3y{P:Program}{w:World}{H:Hp}{h:Heap}{e C t:Addr}{d:Option Addr}(q:h.get? e=some (A1u (.ref C) t d .none)):A1g P w H h e (.ext (A5q e C t d)):=
 ⟨q,⟨_,q⟩,fun _ _ z k=>k _ z⟩
section
variable{X:Cx}{pins:List (Addr×Obj)}{σ:St}{H:Hp}{s:Shared}
def Inv.trackO(I:Inv X pins σ H s)(n:Nw X pins H a)(ok:A1g X.prog X.w (upd H a ho) s.heap a ho):Inv X pins σ (upd H a ho) s:=by
 have d:∀b u,H b=some u ->b≠a:=fun b u z q=>by rw[q,n.un] at z;cases z
 have up:∀b,b≠a ->upd H a ho b=H b:=fun b e=>D8 e
 refine⟨I.ok,I.os,I.bare,⟨I.base.keep,I.base.slot,fun b u z m j=>?_,I.base.there,fun b xs z=>?_,fun b u v z=>?_,fun b ps z=>?_⟩,I.loc,I.cell,?_,fun x c z=>?_,fun p f=>?_,fun b u z=>?_,I.len⟩
 . rw[up b fun q=>by rw[q,n.old] at z;cases z]
   exact I.base.free b u z m j
 . have:=I.base.tups b xs z
   rw[up b (d b _ this)];exact this
 . have:=I.base.frzs b u v z
   rw[up b (d b _ this)];exact this
 . obtain⟨more,this⟩:=I.base.tbls b ps z
   exact⟨more,by rw[up b (d b _ this)];exact this⟩
 . rw[up _ (eU n.loc)];exact I.free
 . rw[up _ (n.cell x c z)];exact I.freeC x c z
 . obtain⟨i,h,g⟩:=I.pin p f
   exact⟨i,by rw[up _ (n.pin p f)];exact h,g⟩
 by_cases e:b=a
 . subst e
   rw[A6] at z
   cases z
   exact ok
 rw[up b e] at z
 exact(I.hok b u z).stay (fun _ _ _ q=>q) (fun c q=>by rw[up c (d c _ q)];exact q) (fun c xs q=>by rw[up c (d c _ q)];exact q)
def rem(H:Hp)(a:Addr):Hp:=fun b=>if b=a then none else H b
def B8b:rem H a a=none:=by unfold rem;rw[aC rfl]
def A7a(h:b≠a):rem H a b=H b:=by unfold rem;rw[aA h]
def Inv.forget(I:Inv X pins σ H s)(e:H a=some (.ext g)):Inv X pins σ (rem H a) s:=by
 have f:∀b u,H b=some u ->(∀g,u≠ .ext g) ->b≠a:=fun b u z q w=>by rw[w,e] at z;cases z;exact q _ rfl
 have d:∀b,H b=none ->rem H a b=none:=fun b z=>by
   by_cases q:b=a
   . rw[q];exact B8b
   . rw[A7a q];exact z
 refine⟨I.ok,I.os,I.bare,⟨I.base.keep,I.base.slot,fun b u z m k=>d b (I.base.free b u z m k),I.base.there,fun b xs z=>?_,fun b u v z=>?_,fun b ps z=>?_⟩,I.loc,I.cell,d _ I.free,fun x c z=>d _ (I.freeC x c z),fun p l=>?_,fun b u z=>?_,I.len⟩
 . have:=I.base.tups b xs z
   rw[A7a (f b _ this (fun _ q=>nomatch q))];exact this
 . have:=I.base.frzs b u v z
   rw[A7a (f b _ this (fun _ q=>nomatch q))];exact this
 . obtain⟨more,this⟩:=I.base.tbls b ps z
   exact⟨more,by rw[A7a (f b _ this (fun _ q=>nomatch q))];exact this⟩
 . obtain⟨j,i,h⟩:=I.pin p l
   exact⟨j,d _ i,h⟩
 have n:b≠a:=fun q=>by rw[q,B8b] at z;cases z
 rw[A7a n] at z
 exact(I.hok b u z).stay (fun _ _ _ q=>q) (fun c q=>by rw[A7a (f c _ q (fun _ w=>nomatch w))];exact q) (fun c xs q=>by rw[A7a (f c _ q (fun _ w=>nomatch w))];exact q)
end
inductive J5w(C:Addr)(f:Str)(D:B0h)(b:St)(y x:V)(a:Hp):Prop
 |mk(e t)(_:x= .ref e)(_:a e=some (.ext (A5q e C t none)))(_:∀d,a d=none ->d≠e ->D.nx b (upd (upd a e (.ext (A5q e C t (some d)))) d (.xd [(f,y)])))
def U7q(C:Addr)(b tv:TE)(f:Str):TS:=fun D a H=>tv a H fun y d=>b a d fun x c=>J5w C f D a y x c
section
variable{X:Cx}{o value:Expr}{f:Str}{pos pos':Pos}{ta tv:TE}{C fI:Addr}
def J2g(F:D8z X.K C fI)(M:findIn X.K (.ref C) f=some none)(N:PE X o ta)(J:PE X value tv)(L:swapsWith value (some (.Attribute o f pos')) pos.line X.env=pure false)(l:X.ex=[]:=by rfl):
   PS X (.Assign [.Attribute o f pos'] value pos) (U7q C ta tv f):=by
 intro a s i H D I h
 refine iV (thn (J a s i H _ I h) fun u w ⟨y,Q,P,A,q⟩=>thn (N a w i Q _ P q) fun G s2 k=>?_) L
 obtain⟨x,n,c,B,e,t,ex,v,E⟩:=k
 subst ex
 obtain rfl:G=Value.ref e:=B
 have he:s2.heap.get? e=some (A1u (.ref C) t none .none):=(c.hok e _ v).1
 refine set_plain c.kIn (⟨he,rfl,rfl,trivial⟩:PySem.W.InstAt s2.heap e (A1u (.ref C) t none .none) C none) F.sa (J2h (s:={s2 with toks:=s2.toks+1}) c.kIn F he M fun h' j d k1 k2 k3 r k5=>?_)
 have p:n d=none:=c.hok.new r
 have O:Inv X a i (upd n e (.ext (A5q e C t (some d)))) {s2 with heap:=h',toks:=j}:=
   c.write (x:=e) (e:=e) (by rw[v];exact trivial) (.inl rfl) (fun b u m z=>k1 b u m z) ⟨_,k2⟩ (G3y k2)
 have nw:Nw X a (upd n e (.ext (A5q e C t (some d)))) d:=c.nw l r (by rw[D8 k5];exact p)
 refine⟨i,_,O.trackO (ho:= .xd [(f,y)]) nw ⟨_,k3,fun g=>?_⟩,E d p k5⟩
 show A7y (List.lookup g [(f,y)]) (if g=f then some u else none)
 by_cases z:g=f
 . rw[aC z,z]
   have:List.lookup f [(f,y)]=some y:=by simp[List.lookup]
   rw[this];exact A
 rw[aA z]
 have:List.lookup g [(f,y)]=none:=by
   have m:(g==f)=false:=cO.mpr z
   simp[List.lookup,m]
 rw[this];exact trivial
end
inductive C4t(C:Addr)(f:Str)(vs:List V)(H:Hp)(Q:VK)(_:XK):Prop
 |mk(e t v)(_:vs=[.ref e,v])(_:H e=some (.ext (A5q e C t none)))(_:∀d,H d=none ->d≠e ->Q .non (upd (upd H e (.ext (A5q e C t (some d)))) d (.xd [(f,v)])))
inductive D9b(C:Addr)(f:Str)(e:EK)(c:St)(vs:List V)(b:Hp):Prop
 |mk(v)(_:vs=[v])(_:∀d a,C9 b a ->b d=none ->a d=some (.xd [(f,v)]) ->e (.ref C) (some d) c a)
def J1x(C:Addr)(f:Str)(d:EK)(t:TA):TS:=fun b a H=>t a H fun vs c=>D9b C f d a vs c
section
variable{X:Cx}{x f:Str}{p cpos pos:Pos}{e:Expr}{t:TA}{C fI:Addr}{fdI:FuncData}{ps:List Str}{EH:EK}{j k:Nat}
def D8d(hm:X.mg x=some (.ref C))(F:D8z X.K C fI)(G:B0 X.prog X.w X.K X.mg X.base CX0 j fI fdI ps (C4t C f))(bI:Binds X.K fdI ps [])(hr:A1e k X.A)(hx:U6 X EH)(ha:PA X [e] t)(hj:j+1<=k:=by decide)(hg:Gl X x:=by rfl)(A:X.ex=[]:=by rfl)(Q:(x==("__debug__":Str))=false:=by decide)(he:starEach [e] X.env=(false,eval e X.env)::starEach [] X.env:=by rfl)(hpl:(backTo cpos (starEach [] X.env)).any (·.1)=false:=by rfl):
   PS X (.Raise (some (.Call (.Name x p) [e] [] cpos)) none pos) (J1x C f EH t):=by
 intro c s J H D I h
 obtain⟨nm,q,N,bs,bm,sn,sub,ab,col,dd,k0,k1,k2,k3,k5,lC,nO,nI,tl⟩:=F.cls
 obtain⟨oI,lI,cI⟩:=F.fn
 have T0:OwnTail X.base D4y bm:=tail_of_in I.ok.mod.kin tl
 have E:X.base.Ns N (X.base.nsMap N):= .of_isNs (isNs_of_in I.ok.mod.kin nO)
 have O:X.base.nsMap N "__init__"=some (.ref fI):=D0b I.ok.mod.kin E nI
 refine B4d (C:=C) (nm:=nm) (q:=q) (N:=N) (bs:=bs) (bm:=bm) (hdct:=true) (sn:=sn) (sub:=sub) (ab:=ab) (col:=col) (dd:=dd) (k0:=k0) (k1:=k1) (k2:=k2) (k3:=k3) (k5:=k5) (oI:=oI) PySem.F.excBase_ValueError (mN:=X.base.nsMap N) (T0.hasType PySem.F.excBase_ValueError.hasBase) hr.hd
   (by rw[he];show(false||(backTo cpos (starEach [] X.env)).any (·.1))=false;rw[hpl];rfl) O cI (A2e I hg hm ⟨rfl,?_⟩ Q)
 have B:=ha cpos c s J H _ I h
 rw[he] at B ⊢
 refine gX (bX B (fun us s2 P=>?_) fun _ _ y=>y)
 obtain⟨vs,l,i,r,v,R,z⟩:=P
 subst R
 obtain⟨u,rfl,ru⟩:=r.one
 refine⟨rfl,C6 (by show 1<=1000;decide),i.kIn _ _ lC,E.keeps i.bk,T0.keeps i.bk,i.kIn _ _ lI,fun h' a m=>?_⟩
 obtain⟨t',e1,tn,e2⟩:=m.there
 have I2:Inv X c J l {s2 with heap:=h'}:=i.kept (t':=s2.toks) m.keeps
 have na:l a=none:=i.hok.new m.new
 have W:=I2.trackO (ho:= .ext (A5q a C t' none)) (i.nw A m.new na) (G3y e1)
 have n:C4t C f [.ref a,v] (upd l a (.ext (A5q a C t' none))) (fun Y H'=>Y= .non/\∃d,l d=none/\d≠a/\H'=upd (upd (upd l a (.ext (A5q a C t' none))) a (.ext (A5q a C t' (some d)))) d (.xd [(f,v)])) E0:=
   ⟨a,t',v,rfl,A6,fun d o g=>⟨rfl,d,by rw[D8 g] at o;exact o,g,rfl⟩⟩
 have rr:U7 [.ref a,v] [.ref a,u]:= .cons rfl (.cons ru .nil)
 have hl:([Value.ref a,u]++ []).length=ps.length:=by
   have:=G.len _ _ _ _ n
   rw[<-this];rfl
 refine gE (gF (G.run _ X.stack _ _ ⟨[.ref a,u],[]⟩ ([.ref a,u]++ []) [.ref a,v] _ E0 ((hr.mono hj).make C [u] []) (W.env0.make C [u] []) (bI _ [.ref a,u] W.kIn hl) rr n) fun r Z w=>?_)
 cases r with
 |error e=>exact w.elim
 | ok fl=>
   cases fl with
   | ret u0=>
     obtain⟨Y,H',U,rv,R,d,o,g,eH⟩:=W.after w
     subst R eH
     have ea:(upd (upd (upd l a (.ext (A5q a C t' none))) a (.ext (A5q a C t' (some d)))) d (.xd [(f,v)])) a=some (.ext (A5q a C t' (some d))):=by
       rw[D8 (eU g),A6]
     have g1:Z.heap.get? a=some (A1u (.ref C) t' (some d) .none):=(U.hok a _ ea).1
     refine⟨rv,U.kIn _ _ lC,⟨t',some d,g1⟩,?_⟩
     refine hx c J _ Z a t' (.ref C) (some d) (U.forget ea) ⟨i.nw A m.new B8b,.none,g1,.inl rfl,fun T z=>nomatch z⟩ (z d _ (fun b ob q=>?_) o ?_)
     . have M:b≠a:=D6 q na
       have L:b≠d:=D6 q o
       rw[A7a M,D8 L,D8 M,D8 M]
       exact q
     . rw[A7a g,A6]
   |next=>exact w.elim
   |brk=>exact w.elim
   |cont=>exact w.elim
end
def D9x{s:Shared}{K:Frag}{b:Bool}{Q:Value ->Shared ->Prop}(F:D1v K C)(X:K.In s.heap)(I:PySem.W.InstAt s.heap a z C o)(q:findObj K C o name=some (.value v))(hh:handedIn v=true)(h:Q v {s with toks:=s.toks+1}):wpAny (model prog w) A (getAttr (.ref a) name b) Q E s:=by
 obtain⟨e,g,d,t,os⟩:=s
 have k:=I.type (M:=model prog w)
 have y:=jK (M:=model prog w) X F.ga
 have L2:=jK (M:=model prog w) X F.gh
 have x:Looks (model prog w) e (isInstance (.ref a) (.type "BaseException")) true:=k.andThen (looks_subIn X F.be)
 have u:=looks_find (M:=model prog w) X I q
 have p:builtinKind "BaseException.__getattribute__"=some .slot:=by decide+kernel
 have c:splitId "BaseException.__getattribute__"=some ("BaseException","__getattribute__"):=by decide+kernel
 have f:=PySem.F.args_bexc_ga (.ref a) (.str name t)
 have r:=PySem.F.attr_ValueError.ga.bind (.ref a)
 unfold getAttr getAttrBy
 refine aE (wpAny_mkText (eI (aE (k.at (aE (y.at ?_))))))
 dsimp only
 rw[aA (show¬((onTheHeap (Value.ref C)&&Value.builtin "BaseException.__getattribute__"==Value.builtin "object.__getattribute__")=true) by
   rw[show(Value.builtin "BaseException.__getattribute__"==Value.builtin "object.__getattribute__")=false by decide+kernel,kQ];exact aB)]
 unfold getAttrByItsOwn
 refine aE (m:=hookBefore (.ref C)) (L2.at ?_)
 refine aE (wpAny_attempt (eI ?_))
 unfold callGetattribute
 rw[aA (show¬((b&&onTheHeap (Value.builtin "BaseException.__getattribute__"))=true) by
   rw[show onTheHeap (Value.builtin "BaseException.__getattribute__")=false from rfl,kQ];exact aB)]
 unfold boundAndCalled
 rw[r]
 refine aE (aR ?_)
 refine gE (gY PySem.F.attr_ValueError.ga.plain PySem.F.entry_bexc_ga ?_)
 have i:∀{n:Around} {j:Unit ->Shared ->Prop} {l:Value ->Shared ->Prop},j () ⟨e,g,d,t+1,os⟩ ->wpAny (model prog w) n (checkBuiltinCall "BaseException.__getattribute__" ⟨[.ref a,.str name t],[]⟩) j l ⟨e,g,d,t+1,os⟩:=by
   intro n j l B
   simp only[checkBuiltinCall,p,c]
   refine aE ?_
   refine x.at ?_
   repeat (first|assumption|wp_step)
 refine i ?_
 show wpAny _ _ (Builtin.«object.__getattribute__» ⟨[.ref a, .str name t], []⟩) _ _ _
 unfold Builtin.«object.__getattribute__»
 refine aE (aR ?_)
 refine aE (aR ?_)
 refine aE (k.at (aE (u.at ?_)))
 dsimp only
 refine aR ?_
 exact handed_on hh h
inductive J5u(K:Frag)(f:Str)(Q:VK)(x:V)(b:Hp):Prop
 |mk(a C t T d u fs v)(_:x= .ref a)(_:b a=some (.frz (A1u (.ref C) t (some d) T) u))(_:b d=some (.xd fs))(_:D1v K C)(_:∃c,clsIn K C=some c/\c.hasDict=true)(_:findIn K (.ref C) f=some none)(_:fs.lookup f=some v)(_:Q v b)
def J7m(K:Frag)(b:TE)(f:Str):TE:=fun a H Q=>b a H fun x c=>J5u K f Q x c
section
variable{X:Cx}{e:Expr}{f:Str}{pos:Pos}{ta:TE}
def J4a(he:PE X e ta)(N:attributeBase e f X.env (eval e X.env)=eval e X.env):PE X (.Attribute e f pos) (J7m X.K ta f):=by
 intro b s p H Q I h
 refine D3j N (thn (he b s p H _ I h) fun u j m=>?_)
 obtain⟨x,U,i,w,a,C,t,T,d,Y,fs,v,ex,P,L,k,⟨R,M,O⟩,F,l,q⟩:=m
 subst ex
 obtain rfl:u=Value.ref a:=w
 have A:j.heap.get? a=some (A1u (.ref C) t (some d) T):=(i.hok a _ P).1
 obtain⟨g,B,y⟩:=(show∃g,j.heap.Ns1 d g/\∀f,A7y (fs.lookup f) (g f) from i.hok d _ L)
 obtain⟨c,z,D⟩:=B3x B
 obtain⟨r,E,n⟩:=A7y.some_of (v:=v) (o:=g f) (by rw[<-l];exact y f)
 have J:W.InstAt j.heap a (A1u (.ref C) t (some d) T) C (some c):=⟨A,rfl,rfl,z⟩
 have G:findObj X.K C (some c) f=some (.value r):=by
   unfold findObj
   rw[M,hZ,F,hZ]
   show((W.ownOf R (some c) f).bind _)=_
   unfold W.ownOf
   rw[O,aC rfl]
   show((lookIn f c).bind _)=_
   rw[D f,E]
   rfl
 exact D9x k i.kIn J G (C0z n) ⟨v,U,i.tok _,n,q⟩
end
section
variable{X:Cx}
def Y5:A6j X (.type "int") (fun xs H Q=>∃z n,xs=[.str z]/\PySem.intText? z=some n/\z.length<=640/\Q (.int n) H):=by
 intro a s d H xs us Q I r h
 obtain⟨z,n,rfl,c,b,q⟩:=h
 obtain⟨u,rfl,t,rfl⟩:=B5f r
 exact KIN.call_text c b ⟨.int n,H,I.tok _,⟨_,rfl⟩,q⟩
end
section
variable{X:Cx}
inductive U9g(x:V)(vs:List V)(H:Hp)(Q:VK):Prop
 |mk(i)(_:x= .int i)(_:vs=[])(_:Q (.int ((Builtin.Int.intBits i:Nat):Int)) H)
def B9y:MtR X "int.bit_length" U9g:=by
 intro a s d H x xs v us Q I b c h
 obtain⟨i,rfl,rfl,q⟩:=h
 obtain⟨t,rfl⟩:=b
 cases c
 exact call_int_bit_length ⟨.int _,H,I.tok _,⟨_,rfl⟩,q⟩
end
section
variable{X:Cx}{a b:Expr}{rest:List Expr}{pos:Pos}{ta tb:TE}
end
section
variable{X:Cx}{j k:Nat}{f C:Addr}{fd:FuncData}{ps:List Str}{sp:Sp}{dvs:List V}{ds:List Value}{x m:Str}{p pos apos:Pos}{e o:Expr}{es:List Expr}{ta:TE}{t:TA}{st:Stmt}
def J4t(F:B0 X.prog X.w X.K X.mg X.base (CX1 X.prog X.w) k f fd ps sp)(n:A1e k X.A)(w:Binds X.K fd ps ds)(v:U7 dvs ds)(I:Inv X b g H s)(r:U7 vs us)(h:sp (vs++dvs) H Q (fun C d l=>EKF C d g l)):wpAny (model X.prog X.w) X.A (call (.ref f) us) (EP X b g Q) X.xe s:=by
 have i:U7 (vs++dvs) (us++ds):=r.append v
 have q:(us++ds).length=ps.length:=by rw[<-i.length];exact F.len _ _ _ _ h
 refine gE (gF (F.run X.A X.stack s H ⟨us,[]⟩ (us++ds) (vs++dvs) Q _ n I.env0 (w s us I.kIn q) i h) fun r A c=>?_)
 cases r with
 | error e=>
   obtain⟨a,t,C,dd,l,_,_,_,_,_,y,_⟩:=c
   exact False.elim y
 | ok z=>
   cases z with
   |ret u=>exact I.after c
   |next=>exact False.elim c
   |brk=>exact False.elim c
   |cont=>exact False.elim c
def B8d(D:Def X.K X.mg x ps st f fd)(F:B0 X.prog X.w X.K X.mg X.base (CX1 X.prog X.w) j f fd ps sp)(g:A1e k X.A)(n:PA X (e::es) t)(i:j<=k:=by decide)(l:Gl X x:=by rfl)(b:(x==("__debug__":Str))=false:=by decide)(he:starEach (e::es) X.env=(false,eval e X.env)::starEach es X.env:=by rfl)(hpl:(backTo pos (starEach es X.env)).any (·.1)=false:=by rfl):PE X (.Call (.Name x p) (e::es) [] pos) (B7y sp [] EKF t):=by
 intro a s d H Q I h
 refine cU (A2e I l D.g ?_ b)
 refine PySem.W.callWith_K (h₀:=X.base) I.ok.mod.kin D.F.kp (thn (n pos a s d H _ I h) fun us u ⟨vs,v,c,r,q⟩=>⟨c.kIn,?_⟩) he hpl
 exact J4t (F.mono i) g D.b .nil c r q
end
section
variable{X:Cx}{N F:List Str}{js:List Nat}{scope:Scope}
def D7x{s:Shared}{h':Heap}(S:U1 N F js scope X.N X.env)(I:Inv X a t H s)(q:∀b∈r,B5w X a H b)(hit:∀b∈r,∃o,s.heap.get? b=some o)(m:∀b∈r,X.base.get? b=none)(l:h'.Ns s.heap.objs.size (fun _=>none))(f:∀b o,s.heap.get? b=some o ->h'.get? b=some o){tk:Nat}:
   Inv (X.compF scope N F s.heap.objs.size s H r (X.pn++a)) [] (List.replicate N.length none++B5y js t) H {s with heap:=h',toks:=tk}:=by
 have w:∀c v,s.heap.IsCell c v ->h'.IsCell c v:=fun c v ⟨o,e,d⟩=>⟨o,f _ _ e,d⟩
 have j:∀x,((compEnvC scope (A8k F X.env) s.heap.objs.size X.env).kindOf x=some .cell\/(compEnvC scope (A8k F X.env) s.heap.objs.size X.env).kindOf x=some .free) ->x∈F:=by
   intro x z
   have z:(relabel scope X.env).names.lookup x=some .cell\/(relabel scope X.env).names.lookup x=some .free:=z
   rcases z with z|z
   . exact S.fr _ (PySem.mem_of_lookup z) (.inl rfl)
   . exact S.fr _ (PySem.mem_of_lookup z) (.inr rfl)
 refine⟨⟨I.ok.mod,S.kind,I.ok.glob,I.ok.blt,aO _,fun x y c z h=>I.ok.inj x y c (S.sub x c z) (S.sub y c h),fun x z=>?_,fun x c z _=>(nomatch z),I.ok.hd,I.ok.frames,.inl rfl,fun b g=>?_,I.bs,bS I.ok.bsz I.sz,fun b o e g=>?_,fun b g n=>?_,I.stack,I.stkFree⟩,
   rfl,I.bare,Un.kept f,⟨_,l,fun i x v M L P=>C0p S I (fun x c v _ z=>w c v z) i x v M L⟩,fun x c z=>?_,I.hok.fresh (aO _),fun x c z=>I.freeC x c (S.sub x c z),fun p E=>?_,I.hok.kept f,G3e S t⟩
 . obtain⟨c,G,_⟩:=S.has (j x z)
   exact⟨c,G⟩
 . obtain⟨O,J⟩:=hit b g
   exact⟨cA (bA J),fun x c z=>(q b g).2.2.2.2.1 x c (S.sub x c z)⟩
 . rw[m b g] at e
   cases e
 . rcases bM.mp (I.stkSub b n) with z|z
   . exact(q b g).2.1 z
   . exact(q b g).2.2.1 z
 . obtain⟨v,h⟩:=I.cell x c (S.sub x c z)
   exact⟨v,w c v h⟩
 have k:p∈X.pn++a:=by simpa using E
 obtain⟨u,D,C,B,A⟩:=I.pin p k
 refine⟨f _ _ u,D,cA (bA u),fun z=>?_,A⟩
 rcases bM.mp (I.stkSub p.1 z) with z|z
 . exact C z
 exact B z
def D0h{s j:Shared}(S:U1 N F js scope X.N X.env)(I:Inv X a h H s)(r:∀b∈g,B5w X a H b)(J:Inv (X.compF scope N F s.heap.objs.size s H g (X.pn++a)) pl k y j):
   Inv (X.compF scope N F s.heap.objs.size s H g (X.pn++a)) [] (List.replicate N.length none++B5y js h) y j:=by
 obtain⟨m,n,_⟩:=J.loc
 refine⟨J.ok,J.os,J.bare,J.base,⟨m,n,fun i x v u t B=>C0p S I (fun x c v z q=>?_) i x v u t⟩,J.cell,J.free,J.freeC,fun p f=>J.pin p (by
   have f:p∈(X.pn++a)++ []:=f
   rw[cP] at f
   exact aZ _ f),J.hok,G3e S h⟩
 obtain⟨o,e,d⟩:=q
 have l:c ∉ g:=fun w=>(r c w).2.2.2.2.1 x c z rfl
 obtain⟨A,q⟩:=J.base.any e (I.freeC x c z) l
 exact⟨_,q,d⟩
def J5e(prog:Program)(w:World)(A:Around)(env:Env)(cs:List Expr)(Q:Bool ->Shared ->Prop)(E:Value ->Shared ->Prop)(s:Shared):Prop:=match cs with
 | []=>Q true s
 |c::_=>wpAny (model prog w) A (PySem.isTrue c env (eval c env)) Q E s
def D7q{Q c:Bool ->Shared ->Prop}{E d:Value ->Shared ->Prop}(a:∀b s,Q b s ->c b s)(f:∀e s,E e s ->d e s):∀{cs:List Expr},J5e prog w A env cs Q E s ->J5e prog w A env cs c d s
 | [],h=>a _ _ h
 |_::_,h=>bX h a f
def G0h{scope:Scope}{R:Result ->Shared ->Prop}(I:Nat ->Shared ->Prop):∀{cs:List Expr},cs.length<=1 ->
   (∀n s,I n s ->wpAny (model prog w) A (pyNext p) (fun r d=>match r with
     |none=>R (.ok .next) d
     |some v=>wpAny (model prog w) A (letOwnedTupleGo a p v) (fun _ s₀=>wpAny (model prog w) A (assign a env v) (fun _ i=>J5e prog w A env cs (fun ok c=>if ok=true then wpAny (model prog w) A (eval j env) (fun x g=>
         wpAny (model prog w) A (call (.builtin "list.append") [k,x]) (fun _ f=>∃m,m<n/\I m f) (notedBy (model prog w) A env fun e b=>R (.error e) b) g) (notedBy (model prog w) A env fun e b=>R (.error e) b) c else∃m,m<n/\I m c) (notedBy (model prog w) A env fun e b=>R (.error e) b) i)
         (notedBy (model prog w) A env fun e b=>R (.error e) b) s₀) (notedBy (model prog w) A env fun e b=>R (.error e) b) d) (notedBy (model prog w) A env fun e b=>R (.error e) b) s) ->
   ∀n,I n s ->codeAny (model prog w) A (.compLoop (.ListComp j [⟨a,o,cs,0⟩] scope pos) 0 p k env) R s
 | [],_,t,n,h=>G2w I t n h
 | [_],_,t,n,h=>kct_loop I t n h
 |_::_::_,l,_,_,_=>nomatch l
def A6y{cs:List Expr}(hl:cs.length<=1){scope:Scope}{N F:List Str}{js:List Nat}{tc:TT}(S:U1 N F js scope X.N X.env)(hd:A7m X)(yx:X.calm=true)(hi:PI X t M wi)(zm:X.ex=[])(hg:∀C s₀ H₀ ex pn,A7m (X.compF scope N F C s₀ H₀ ex pn) ->PG (X.compF scope N F C s₀ H₀ ex pn) t g)(hc:∀C s₀ H₀ ex pn,A7m (X.compF scope N F C s₀ H₀ ex pn) ->∀a s B H (Q:Bool ->Hp ->Prop),Inv (X.compF scope N F C s₀ H₀ ex pn) a B H s ->tc B H Q ->J5e X.prog X.w X.A (X.compF scope N F C s₀ H₀ ex pn).env cs (fun b E=>∃l,Inv (X.compF scope N F C s₀ H₀ ex pn) a B l E/\Q b l) (X.compF scope N F C s₀ H₀ ex pn).xe s)(he:∀C s₀ H₀ ex pn,A7m (X.compF scope N F C s₀ H₀ ex pn) ->PE (X.compF scope N F C s₀ H₀ ex pn) yz te){Q:VK}{RR:Value ->Env ->Result ->Shared ->Prop}(I:Inv X a B H s)(h:(C4k N.length js wi g tc te) B H Q)(zt:∀(D C:Addr) (s6:Shared) (U:Hp) (mm:Str ->Option Value),Inv X a B U s6 ->s6.heap.Ns C mm ->B5w X a U C ->Q (.ref D) U ->RR (.ref D) (compEnvC scope (A8k F X.env) C X.env) (.ok .next) s6):
   wpAny (model X.prog X.w) X.A (eval M X.env) (fun v s1=>wpAny (model X.prog X.w) X.A (pyIter v) (fun yt s2=>wpAny (model X.prog X.w) X.A (newList []) (fun zb s3=>wpAny (model X.prog X.w) X.A (newFunctionEnv scope X.env.globals (A8k F X.env) [] X.env.qual none .none (some X.env)) (fun xu s4=>
     codeAny (model X.prog X.w) X.A (.compStart (.ListComp yz [⟨t,M,cs,0⟩] scope pos) 0 yt zb {xu with scope:=relabel scope X.env}) (RR zb {xu with scope:=relabel scope X.env}) s4) X.xe s3) X.xe s2) X.xe s1) X.xe s:=by
 refine thn (hi a s B H _ I h) fun v s1 h1=>thn h1 fun yt s2 h2=>?_
 obtain⟨it,j,tn,J,A,rfl,I2,T,xy,O,R⟩:=h2
 have yr:=T.obj _ _ xy
 have yi:=I2.hok.fresh (aO _)
 refine wpAny_newObj_type ?_
 have P:Inv X a B (upd A s2.heap.objs.size (.lst [])) {s2 with heap:=s2.heap.push {cls:= .type "list",dict:=none,data:= .seq ([]:List Value).toArray}}:=Inv.lnew (t':=s2.toks) I2 .nil (bP _)
 refine wpAny_newFunctionEnv S.cell (by intro y hy;simp at hy) (fun h4 yh xz=>?_) S.kind
 dsimp only at yh xz ⊢
 generalize hG:s2.heap.push {cls:= .type "list",dict:=none,data:= .seq ([]:List Value).toArray}=G at P yh xz ⊢
 generalize hD:s2.heap.objs.size=D at P yi
 have nD:∀b∈j,b≠D:=fun b f=>by
   obtain⟨o,eo,_⟩:=yr b f
   rw[<-hD];exact cA (bA eo)
 have za:∀b∈j,∃o,G.get? b=some o:=fun b f=>by
   obtain⟨o,eo,_⟩:=yr b f
   exact⟨o,by rw[<-hG];exact aF _ eo⟩
 have kp:∀b o,G.get? b=some o ->h4.get? b=some o:=fun b o e=>xz.extBut b o (cA (bA e)) (aF _ e)
 have f3:∀b∈j,B5w X a (upd A D (.lst [])) b:=fun b f=>⟨by rw[D8 (nD b f)];exact(O b f).1,(O b f).2⟩
 have nb:∀b∈j,X.base.get? b=none:=fun b f=>by
   cases q:X.base.get? b with
   |none=>rfl
   | some o=>
     have:=(I.ok.bs b o q).1
     rcases(O b f).2.2.2.1 with z|z
     . rw[zm] at z;simp at z
     . exact absurd (aQ (bA this) z) (eG _)
 have yw:h4.Ns G.objs.size (fun _=>none):=by
   obtain⟨o,es,ep,q1,q2,q3,q4⟩:=yh
   exact⟨o,es,ep,q1,q2,q3,fun x=>by rw[q4];rfl⟩
 have I4:=D7x (tk:=s2.toks+([]:List (Str×Value)).length) S P f3 za nb yw kp
 have yj:A7m (X.compF scope N F G.objs.size {s2 with heap:=G} (upd A D (.lst [])) j (X.pn++a)):=by
   rcases hd with z|⟨x,o,u,vs,z,e,d,n⟩
   . exact .inl z
   . refine .inr ⟨x,o,u,vs,z,?_,d,n⟩
     have q:=I2.base.frzs x o u e
     show upd A D (.lst []) x=_
     rw[D8 fun w=>by rw[w,yi] at q;cases q]
     exact q
 obtain⟨m,W,w0,ym⟩:=R D yi
 have gg:=hg _ _ _ _ _ yj
 have cc:=hc _ _ _ _ _ yj
 have ee:=he _ _ _ _ _ yj
 have yk:∀{l:Hp} {L:St} {E:Shared} {pl:List (Addr×Obj)},Inv (X.compF scope N F G.objs.size {s2 with heap:=G} (upd A D (.lst [])) j (X.pn++a)) pl L l E ->(∀b∈j,l b=none) ->(∀b∈j,∀p∈pl,p.1≠b) ->∀b∈j,B5w (X.compF scope N F G.objs.size {s2 with heap:=G} (upd A D (.lst [])) j (X.pn++a)) pl l b:=by
   intro l L E pl J' hn hp b f
   obtain⟨oi,ei⟩:=za b f
   refine⟨hn b f,cA (bA ei),?_,.inl f,(fun x c z=>(O b f).2.2.2.2.1 x c (S.sub x c z)),fun p zj=>?_⟩
   . intro z
     rcases bM.mp (I.stkSub b z) with z|z
     . exact(O b f).2.1 z
     . exact(O b f).2.2.1 z
   . rcases bO.mp zj with z|z
     . exact(O b f).2.2.2.2.2 p z
     . exact hp b f p z
 -- the zg
 have Z:codeAny (model X.prog X.w) X.A (.compLoop (.ListComp yz [⟨t,M,cs,0⟩] scope pos) 0 (.ref it) (.ref D) (compEnvC scope (A8k F X.env) G.objs.size X.env))
     (RR (.ref D) (compEnvC scope (A8k F X.env) G.objs.size X.env))
     {s2 with heap:=h4,toks:=s2.toks+([]:List (Str×Value)).length}:=by
   refine G0h (fun k E=>∃i ys l,k=m+1-i/\Inv (X.compF scope N F G.objs.size {s2 with heap:=G} (upd A D (.lst [])) j (X.pn++a)) [] (List.replicate N.length none++B5y js B) l E/\tn i E.heap/\(∀b∈j,l b=none)/\W i ys l) hl ?_ (m+1)
     ⟨0,[],_,rfl,I4,T.keep _ _ _ xy fun b f o e=>kp b o (by rw[<-hG];exact aF _ e),fun b f=>(f3 b f).1,w0⟩
   rintro k s5 ⟨i,ys,U,rfl,I5,yp,n5,w5⟩
   obtain⟨hi5,hD5,w5⟩:=ym i ys U w5
   rcases w5 with⟨yn,q⟩|⟨lt5,go,step⟩
   . refine bX (T.done (X.compF scope N F G.objs.size {s2 with heap:=G} (upd A D (.lst [])) j (X.pn++a)) rfl rfl rfl yx i [] s5 _ U (fun _ _=>False) I5 (yk I5 n5 (by simp)) yp yn) (fun r s6 z=>?_) (fun _ _ z=>z.elim)
     obtain⟨rfl,I6⟩:=z
     obtain⟨mm,zk,_⟩:=I6.loc
     have B6:=I6.base
     have J6:Inv X a B U s6:=by
       refine P.call' (ch:=j) I6.os ⟨B6.keep,B6.slot,B6.free,B6.there,B6.tups,B6.frzs,B6.tbls⟩ I6.hok I6.bare (fun b f=>⟨(O b f).2.2.2.1,(O b f).2.1,(O b f).2.2.2.2.1,(O b f).2.2.2.2.2⟩)
     have zh:X.s₀.heap.objs.size<=G.objs.size:=P.sz
     refine zt D G.objs.size s6 U mm J6 zk ⟨I6.free,?_,?_,.inr zh,?_,?_⟩ q
     . exact Nat.ne_of_gt P.lt
     . intro z
       obtain⟨_,o,ho,_⟩:=P.funs.mem z
       exact eG _ (bA ho)
     . rintro x c z rfl
       obtain⟨v',o,ho,_⟩:=P.cell x _ z
       exact eG _ (bA ho)
     . rintro p hp z
       have zz:=(P.pin p hp).1
       rw[z] at zz
       exact eG _ (bA zz)
   . refine bX (T.item (X.compF scope N F G.objs.size {s2 with heap:=G} (upd A D (.lst [])) j (X.pn++a)) rfl rfl rfl yx i [] s5 _ U (fun _ _=>False) I5 (yk I5 n5 (by simp)) yp go) (fun r s6 z=>?_) (fun _ _ z=>z.elim)
     obtain⟨u,rfl,z⟩:=z
     refine bX z (fun _ Y z=>?_) (fun _ _ z=>z.elim)
     obtain⟨x,H7,I7,rx,yl,yo,zu⟩:=z
     have yq:=T.obj _ _ yo
     have zw:Inv (X.compF scope N F G.objs.size {s2 with heap:=G} (upd A D (.lst [])) j (X.pn++a)) (A5v j Y.heap) (List.replicate N.length none++B5y js B) H7 Y:=I7.pinned (yk I7 zu (by simp)) yq
     have xv:∀{i':Nat} {xx:List V} {l:Hp} {L:St} {E:Shared},i'=i+1 ->Inv (X.compF scope N F G.objs.size {s2 with heap:=G} (upd A D (.lst [])) j (X.pn++a)) (A5v j Y.heap) L l E ->W i' xx l ->
         ∃k',k'<m+1-i/\∃i ys l,k'=m+1-i/\Inv (X.compF scope N F G.objs.size {s2 with heap:=G} (upd A D (.lst [])) j (X.pn++a)) [] (List.replicate N.length none++B5y js B) l E/\tn i E.heap/\(∀b∈j,l b=none)/\W i ys l:=by
       rintro i' xx l L E rfl J' w'
       refine⟨m+1-(i+1),by omega,i+1,xx,l,rfl,D0h S P f3 J',T.keep _ _ _ yo fun b f o z=>(J'.pin (b,o) (bJ _ (A6p f z))).1,fun b f=>?_,w'⟩
       obtain⟨o,eo,_⟩:=yq b f
       exact(J'.pin (b,o) (bJ _ (A6p f eo))).2.1
     refine bX (gg (A5v j Y.heap) Y _ H7 x u _ zw rx (step x H7 yl)) (fun _ s8 z=>?_) (fun _ _ z=>z.elim)
     obtain⟨xw,H8,I8,q8⟩:=z
     refine D7q (fun b s9 z=>?_) (fun _ _ z=>z.elim) (cc (A5v j Y.heap) s8 xw H8 _ I8 q8)
     obtain⟨H9,I9,q9⟩:=z
     cases b with
     | false=>
       simp only[iH,kN] at q9 ⊢
       exact xv rfl I9 q9
     | true=>
       simp only[kW] at q9 ⊢
       refine bX (ee (A5v j Y.heap) s9 xw H9 _ I9 q9) (fun y zi z=>?_) (fun _ _ z=>z.elim)
       obtain⟨yv,H10,zy,ry,yy,yu,ze⟩:=z
       refine bX (B3t (X:=X.compF scope N F G.objs.size {s2 with heap:=G} (upd A D (.lst [])) j (X.pn++a)) (A5v j Y.heap) zi xw H10 (.ref D) [yv] (.ref D) [y] (fun _ zc=>W (i+1) (ys++ [yv]) zc) zy rfl (.cons ry .nil) ⟨D,ys,yv,rfl,rfl,yy,yu,ze⟩) (fun _ s11 z=>?_) (fun _ _ z=>z.elim)
       obtain⟨_,zc,zx,_,zd⟩:=z
       exact xv rfl zx zd
 exact codeAny_compStart_list Z (T.self _ 0 _ _ _ (T.keep _ _ _ xy fun b f o e=>kp b o (by rw[<-hG];exact aF _ e)) Z)
def G1u(S:U1 N F js scope X.N X.env)(y:A7m X)(f:X.calm=true)(v:PI X a b l)(e:X.ex=[])(w:∀C s₀ H₀ ex pn,A7m (X.compF scope N F C s₀ H₀ ex pn) ->PG (X.compF scope N F C s₀ H₀ ex pn) a g)(z:∀C s₀ H₀ ex pn,A7m (X.compF scope N F C s₀ H₀ ex pn) ->PT (X.compF scope N F C s₀ H₀ ex pn) c tc)(he:∀C s₀ H₀ ex pn,A7m (X.compF scope N F C s₀ H₀ ex pn) ->PE (X.compF scope N F C s₀ H₀ ex pn) i m)(u:∀x,foldedSetIterable b X.env x=pure x:=by intro _;rfl):PE X (.ListComp i [⟨a,b,[c],0⟩] scope pos) (C4k N.length js l g tc m):=by
 intro d s k H Q I h
 rw[eval_ListComp]
 refine fP (use:=none) rfl u S.clos S.kind S.loc (A6y (cs:=[c]) (aO 1) S y f v e w z he I h (RR:=fun j B r o=>compPost (model X.prog X.w) X.A X.xe none (EP X d k Q) j B.locals r o) ?_)
 intro D C J G t E p A q
 exact⟨t,p,fun h' n=>⟨.ref D,G,D2z E A n,rfl,q⟩⟩
def C1b(S:U1 N F js scope X.N X.env)(w:A7m X)(e:X.calm=true)(u:PI X a b k)(d:X.ex=[])(v:∀C s₀ H₀ ex pn,A7m (X.compF scope N F C s₀ H₀ ex pn) ->PG (X.compF scope N F C s₀ H₀ ex pn) a g)(he:∀C s₀ H₀ ex pn,A7m (X.compF scope N F C s₀ H₀ ex pn) ->PE (X.compF scope N F C s₀ H₀ ex pn) f l)(t:∀x,foldedSetIterable b X.env x=pure x:=by intro _;rfl):PE X (.ListComp f [⟨a,b,[],0⟩] scope pos) (C2r N.length js k g l):=by
 intro c s j H Q I h
 rw[eval_ListComp]
 refine fP (use:=none) rfl t S.clos S.kind S.loc (A6y (cs:=[]) (tc:=fun j H Q=>Q true H) (bP _) S w e u d v (fun _ _ _ _ _ _ _ _ _ _ _ I q=>⟨_,I,q⟩) he I h (RR:=fun i z r n=>compPost (model X.prog X.w) X.A X.xe none (EP X c j Q) i z.locals r n) ?_)
 intro D C E B p A o y q
 exact⟨p,o,fun h' m=>⟨.ref D,B,D2z A y m,rfl,q⟩⟩
def C6g{i:Nat}{m f:Pos}(S:U1 N F js scope X.N X.env)(Y:A7m X)(u:X.calm=true)(T:PI X b d B)(t:X.ex=[])(U:∀C s₀ H₀ ex pn,A7m (X.compF scope N F C s₀ H₀ ex pn) ->PG (X.compF scope N F C s₀ H₀ ex pn) b g)(Z:∀C s₀ H₀ ex pn,A7m (X.compF scope N F C s₀ H₀ ex pn) ->PT (X.compF scope N F C s₀ H₀ ex pn) c tc)(he:∀C s₀ H₀ ex pn,A7m (X.compF scope N F C s₀ H₀ ex pn) ->PE (X.compF scope N F C s₀ H₀ ex pn) k E)(hN:X.N.Nodup)(p:X.N[i]?=some y)(O:Loc X.env.scope y)(W:X.fn y=true\/X.env.scope.names.lookup y=some .local:=by first|exact .inl rfl|exact .inr rfl|assumption)(o:swapsWith (.ListComp k [⟨b,d,[c],0⟩] scope pos) (some (.Name y m)) f.line X.env=pure true:=by rfl)(P:∀x,foldedSetIterable d X.env x=pure x:=by intro _;rfl):PS X (.Assign [.Name y m] (.ListComp k [⟨b,d,[c],0⟩] scope pos) f) (G2j (C4k N.length js B g tc E) (C0u i)):=by
 intro j s σ H D I h
 rw[exec_Assign_Name_used _ _ _ _ o]
 refine aE (fw (aE ?_))
 show wpAny _ X.A (do let _<-comprehension (.ListComp k [⟨b,d,[c],0⟩] scope pos) scope X.env _ (newList []) false (eval d X.env) (some (assign (.Name y m) X.env))) _ _ s
 refine aE (bX (fP (Q:=fun _ l=>SP X j D .next l) rfl P S.clos S.kind S.loc (A6y (cs:=[c]) (aO 1) S Y u T t U Z he I h (RR:=fun A ce r l=>compPost (model X.prog X.w) X.A X.xe (some (assign (.Name y m) X.env)) (fun _ l=>SP X j D .next l) A ce.locals r l) ?_))
   (fun _ l R=>aR (aR R)) fun _ _ e=>e)
 intro D' C s6 H5 M I6 L z q
 refine jX (B4g (v:= .ref D') I6 hN p O rfl (fun s7 I7 st=>?_) W)
 obtain⟨a,G,w⟩:=st
 have J:C≠a:=by
   rcases w with rfl|w
   . exact z.2.1
   . exact(z.2.2.2.2.1 y a w).symm
 exact⟨M,L.sameBut G J,fun h' n=>⟨_,_,D2z I7 z n,q⟩⟩
def C0x{i:Nat}{l d:Pos}(S:U1 N F js scope X.N X.env)(Y:A7m X)(t:X.calm=true)(T:PI X b c B)(p:X.ex=[])(U:∀C s₀ H₀ ex pn,A7m (X.compF scope N F C s₀ H₀ ex pn) ->PG (X.compF scope N F C s₀ H₀ ex pn) b g)(he:∀C s₀ H₀ ex pn,A7m (X.compF scope N F C s₀ H₀ ex pn) ->PE (X.compF scope N F C s₀ H₀ ex pn) j E)(Z:X.N.Nodup)(o:X.N[i]?=some y)(O:Loc X.env.scope y)(W:X.fn y=true\/X.env.scope.names.lookup y=some .local:=by first|exact .inl rfl|exact .inr rfl|assumption)(n:swapsWith (.ListComp j [⟨b,c,[],0⟩] scope pos) (some (.Name y l)) d.line X.env=pure true:=by rfl)(P:∀x,foldedSetIterable c X.env x=pure x:=by intro _;rfl):PS X (.Assign [.Name y l] (.ListComp j [⟨b,c,[],0⟩] scope pos) d) (G2j (C2r N.length js B g E) (C0u i)):=by
 intro f s A H D I h
 rw[exec_Assign_Name_used _ _ _ _ n]
 refine aE (fw (aE ?_))
 show wpAny _ X.A (do let _<-comprehension (.ListComp j [⟨b,c,[],0⟩] scope pos) scope X.env _ (newList []) false (eval c X.env) (some (assign (.Name y l) X.env))) _ _ s
 refine aE (bX (fP (Q:=fun _ k=>SP X f D .next k) rfl P S.clos S.kind S.loc (A6y (cs:=[]) (tc:=fun A H Q=>Q true H) (bP _) S Y t T p U (fun _ _ _ _ _ _ _ _ _ _ _ I q=>⟨_,I,q⟩) he I (show C2r N.length js B g E A H _ from h) (RR:=fun z ce r k=>compPost (model X.prog X.w) X.A X.xe (some (assign (.Name y l) X.env)) (fun _ k=>SP X f D .next k) z ce.locals r k) ?_))
   (fun _ k R=>aR (aR R)) fun _ _ e=>e)
 intro D' C s6 H5 M I6 L w q
 refine jX (B4g (v:= .ref D') I6 Z o O rfl (fun s7 I7 st=>?_) W)
 obtain⟨a,G,u⟩:=st
 have J:C≠a:=by
   rcases u with rfl|u
   . exact w.2.1
   . exact(w.2.2.2.2.1 y a u).symm
 exact⟨M,L.sameBut G J,fun h' m=>⟨_,_,D2z I7 w m,q⟩⟩
end
def U1.of0(S:G4x N [] b)(a:closureFor b env=pure (A8k [] env)):U1 N [] [] b c env:=
 ⟨S.kind,S.cell,S.loc,S.nd,a,B0v S.cell S.fr,fun k y h=>by simp at h,rfl⟩
section
variable{X:Cx}{pins:List (Addr×Obj)}{σ:St}{H:Hp}{s:Shared}{h':Heap}
end
section
variable{X:Cx}{es:List Expr}{k:Nat}{tp:Pos}
inductive U2c(K:Frag)(Q:VK)(x z:V)(b:Hp):Prop
 |mk(_:z= .int (-1)) (a xs)(_:x= .ref a)(_:SqL K b a xs)(_:∀p,b p=none ->Q (.ref p) (upd b p (.lst xs.reverse)))
def V3p(K:Frag)(c b:TE):TE:=fun a H Q=>c a H fun x e=>b a e fun z d=>U2c K Q x z d
def B0r{b c:Type}{f:b ->Option c}{g:b ->c}:∀l:List b,(∀k∈l,f k=some (g k)) ->l.filterMap f=l.map g
 | [],_=>rfl
 | a::l,h=>by
   rw[eY,h a (aH ..)]
   show g a::l.filterMap f=g a::l.map g
   rw[B0r l fun k d=>h k (aJ _ d)]
def G2z(a:List Value):slicePick a.toArray none none (some (-1))=a.reverse.toArray:=by
 unfold slicePick
 congr 1
 show(sliceRange ((a.toArray.size:Int)-1) (-1) (-1)).filterMap (a.toArray[·]?)=a.reverse
 have e:sliceRange ((a.toArray.size:Int)-1) (-1) (-1)=(List.range a.length).map fun k=>a.length-1-k:=by
   unfold sliceRange
   have c:(if(-1:Int)>0 then(if((a.toArray.size:Int)-1)< -1 then(-1-((a.toArray.size:Int)-1)+ -1-1)/ -1 else 0) else(if((a.toArray.size:Int)-1)> -1 then(((a.toArray.size:Int)-1) - -1 - -1-1)/(- -1) else 0)).toNat=a.length:=by
     rw[aA (by decide),bG]
     split
     . rw[show(- -1:Int)=1 by decide,Int.ediv_one];lia
     . lia
   show(List.range (if(-1:Int)>0 then(if((a.toArray.size:Int)-1)< -1 then(-1-((a.toArray.size:Int)-1)+ -1-1)/ -1 else 0) else(if((a.toArray.size:Int)-1)> -1 then(((a.toArray.size:Int)-1) - -1 - -1-1)/(- -1) else 0)).toNat).map (fun k:Nat=>(((a.toArray.size:Int)-1)+(-1)*(k:Int)).toNat)=_
   rw[c]
   refine eZ fun k b=>?_
   have:=kM.mp b
   rw[bG]
   lia
 rw[e]
 apply iO
 intro i
 have h:((List.range a.length).map fun k=>a.length-1-k).filterMap (a.toArray[·]?)=((List.range a.length).map fun k=>a.length-1-k).filterMap (a[·]?):=by simp
 rw[h,List.filterMap_map]
 have g:(List.range a.length).filterMap ((a[·]?)∘fun k=>a.length-1-k)=a.reverse:=by
   have f:∀k∈List.range a.length,((a[·]?)∘fun k=>a.length-1-k) k=some (a.reverse[k]?.getD .none):=fun k b=>by
     have b:=kM.mp b
     show a[a.length-1-k]?=_
     rw[List.getElem?_reverse b,aY (by lia)]
     rfl
   rw[B0r _ f]
   apply iO
   intro j
   rw[eX]
   by_cases d:j<a.length
   . rw[List.getElem?_range d]
     show some (a.reverse[j]?.getD .none)=a.reverse[j]?
     rw[aY (by simpa using d)]
     rfl
   . rw[cS (by simpa using d),cS (by simpa using d)]
     rfl
 rw[g]
def U1b{e st:Expr}(he:PE X e p)(i:PE X st n):PE X (.Subscript e (.Slice none none (some st) C) pos) (V3p X.K p n):=by
 intro c s g H Q I h
 refine Subscript_ (thn (he c s g H _ I h) fun v u f=>?_)
 obtain⟨x,O,M,y,B⟩:=f
 refine wpAny_Slice ?_
 rw[evalPart_none]
 refine aR (aR ?_)
 rw[evalPart_some]
 refine thn (i c u g O _ M B) fun vs d f=>?_
 obtain⟨z,N,L,w,A⟩:=f
 obtain⟨rfl,a,xs,rfl,G,q⟩:=A
 obtain⟨t,rfl⟩:=w
 cases y
 have j:Inv X c g N {d with heap:=d.heap.push {cls:= .type "slice",data:= .fields #[.none,.none,.int (-1) t]}}:=L.kept (t':=d.toks) fun b D q=>aF _ q
 obtain⟨E,r,l,F⟩:=j.list G
 have m:=r.length
 have J:wpAny (model X.prog X.w) X.A (getItem (.ref a) (.ref d.heap.objs.size)) (EP X c g Q) X.xe {d with heap:=d.heap.push {cls:= .type "slice",data:= .fields #[.none,.none,.int (-1) t]}}:=by
   refine wpAny_getItem_list_slice l.isList (Heap.IsSliceOf.new ..) .none .none (.int (-1) t) (by decide) ?_ (by rw[bG]<;>lia)
   rw[G2z]
   refine⟨.ref _,_,j.laid (t':=d.toks) (o:= .lst xs.reverse) (fun b D q=>aF _ q) (aO _) ?_,rfl,q _ (j.hok.fresh (aO _))⟩
   exact⟨by rw[fi];exact F,_,0,r.reverse,bV _ rfl⟩
 show wpAny (model X.prog X.w) X.A (subscriptTail e (.Slice none none (some st) C) (.ref a) (.ref d.heap.objs.size)) (EP X c g Q) X.xe {d with heap:=d.heap.push {cls:= .type "slice",data:= .fields #[.none,.none,.int (-1) t]}}
 exact tail_any (ops:=[.ref a,.ref d.heap.objs.size]) l.isList.typeIs jY.lookup J (by with_unfolding_all rfl)
end
def D9t(D:Addr)(H a:Hp):Prop:=∀b o,H b=some o ->b≠D ->a b=some o
def B4m{J:It}{g:TG}{I:TE}{s:Hp}{O:Addr ->Hp ->Prop}{n:Nat}(R:Nat ->V ->Hp ->Prop)(Y:n<=1000)(mono:∀i y d v D l,R i y d ->d D=some (.lst l) ->D9t D d v ->R i y v)(step:∀i a N,i<n ->C9 s a ->(∀y c,C9 a c ->R i y c ->N y c) ->J.go i a/\∀x u,J.yld i a x u ->g x B u fun f H=>I f H N)(t:∀a,C9 s a ->J.stop n a)(k:∀D d ys,C9 s d ->s D=none ->d D=some (.lst ys) ->ys.length=n ->(∀i y,ys[i]?=some y ->R i y d) ->O D d):∀D,s D=none ->
   ∃ (m:Nat) (W:Nat ->List V ->Hp ->Prop),W 0 [] (upd s D (.lst []))/\∀i ys a,W i ys a ->i<=m/\a D=some (.lst ys)/\((J.stop i a/\O D a)\/(i<m/\J.go i a/\∀x u,J.yld i a x u ->
     g x B u fun f H=>I f H fun y c=>c D=some (.lst ys)/\ys.length<sizeLine/\W (i+1) (ys++ [y]) (upd c D (.lst (ys++ [y]))))):=by
 intro D F
 refine⟨n,fun i ys a=>i<=n/\ys.length=i/\a D=some (.lst ys)/\C9 s a/\∀j y,ys[j]?=some y ->R j y a,⟨bP _,rfl,A6,C9.upd F,fun j y h=>by simp at h⟩,?_⟩
 rintro i ys a ⟨Q,L,A,w,M⟩
 refine⟨Q,A,?_⟩
 by_cases p:i<n
 . refine .inr ⟨p,step i a _ p w fun y c C P=>?_⟩
   have G:c D=some (.lst ys):=C _ _ A
   have ex:D9t D c (upd c D (.lst (ys++ [y]))):=fun b o e T=>by rw[D8 T];exact e
   refine⟨G,aW (by lia:ys.length<=1000) (A0u (aO _)),p,by simp[L],A6,fun b o e=>?_,fun j z r=>?_⟩
   . rw[D8 (D6 e F)]
     exact C _ _ (w _ _ e)
   . by_cases E:j<ys.length
     . rw[cH E] at r
       exact mono j z c _ D ys (mono j z a c D ys (M j z r) A fun b o e _=>C _ _ e) G ex
     . rw[cG (by lia)] at r
       have X:j-ys.length=0:=by
         apply aX
         intro q
         rw[cS (by simp;lia)] at r
         cases r
       rw[X] at r
       have U:j=i:=by lia
       subst U
       cases r
       exact mono _ _ c _ D ys P G ex
 have e:i=n:=by lia
 subst e
 exact .inl ⟨t a w,k D a ys w F A L M⟩
def C6z{J:It}{g:TG}{tc:TT}{U:TE}{B:St}{w:Hp}{QD:Addr ->Hp ->Prop}{n:Nat}(f:Nat ->Bool)(R:Nat ->V ->Hp ->Prop)(hn:n<=1000)(mono:∀i y u I D l,R i y u ->u D=some (.lst l) ->D9t D u I ->R i y I)(step:∀(i:Nat) (a:Hp) (Y:VK) (Z:Hp ->Prop),i<n ->C9 w a ->(f i=true ->∀y d,C9 a d ->R i y d ->Y y d) ->(f i=false ->∀d,C9 a d ->Z d) ->J.go i a/\∀x H,J.yld i a x H ->g x B H fun p T=>tc p T fun b G=>if b=true then U p G Y else Z G)(C:∀a,C9 w a ->J.stop n a)(k:∀D u ys,C9 w u ->w D=none ->u D=some (.lst ys) ->ys.length=((List.range n).filter f).length ->(∀(j i:Nat) (y:V),((List.range n).filter f)[j]?=some i ->ys[j]?=some y ->R i y u) ->QD D u):∀D,w D=none ->
   ∃ (m:Nat) (W:Nat ->List V ->Hp ->Prop),W 0 [] (upd w D (.lst []))/\∀i ys a,W i ys a ->i<=m/\a D=some (.lst ys)/\((J.stop i a/\QD D a)\/(i<m/\J.go i a/\∀x H,J.yld i a x H ->
     g x B H fun p T=>tc p T fun b G=>if b=true then U p G fun y d=>d D=some (.lst ys)/\ys.length<sizeLine/\W (i+1) (ys++ [y]) (upd d D (.lst (ys++ [y]))) else W (i+1) ys G)):=by
 intro D P
 refine⟨n,fun i ys a=>i<=n/\ys.length=((List.range i).filter f).length/\a D=some (.lst ys)/\C9 w a/\∀(j r:Nat) (y:V),((List.range i).filter f)[j]?=some r ->ys[j]?=some y ->R r y a,⟨bP _,rfl,A6,C9.upd P,fun j r y h=>by simp at h⟩,?_⟩
 rintro i ys a ⟨hi,L,A,E,O⟩
 refine⟨hi,A,?_⟩
 by_cases s:i<n
 . have fl :((List.range i).filter f).length<=i:=bS (gI _ _) (by simp)
   refine .inr ⟨s,step i a _ _ s E (fun N y d v r6=>?_) (fun N d v=>?_)⟩
   . have Q:d D=some (.lst ys):=v _ _ A
     have ex:D9t D d (upd d D (.lst (ys++ [y]))):=fun b o e hb=>by rw[D8 hb];exact e
     have F:(List.range (i+1)).filter f=(List.range i).filter f++ [i]:=by rw[kJ,jN,List.filter_cons,N];rfl
     refine⟨Q,aW (by lia:ys.length<=1000) (A0u (aO _)),s,by rw[F,aG,aG,L];rfl,A6,fun b o e=>?_,fun j r z c t=>?_⟩
     . rw[D8 (D6 e P)]
       exact v _ _ (E _ _ e)
     . rw[F] at c
       by_cases M:j<ys.length
       . rw[cH M] at t
         rw[cH (by lia)] at c
         exact mono r z d _ D ys (mono r z a d D ys (O j r z c t) A fun b o e _=>v _ _ e) Q ex
       . rw[cG (by lia)] at t
         rw[cG (by lia)] at c
         have X:j-ys.length=0:=by
           apply aX
           intro q
           rw[cS (by simp;lia)] at t
           cases t
         rw[X] at t
         rw[<-L,X] at c
         cases t
         cases c
         exact mono _ _ d _ D ys r6 Q ex
   . have F:(List.range (i+1)).filter f=(List.range i).filter f:=by rw[kJ,jN,List.filter_cons,N];simp
     refine⟨s,by rw[F];exact L,v _ _ A,E.trans v,fun j r z c t=>?_⟩
     rw[F] at c
     exact mono r z a d D ys (O j r z c t) A fun b o e _=>v _ _ e
 have e:i=n:=by lia
 subst e
 exact .inl ⟨C a E,k D a ys E P A L O⟩
open AutoSeq1 (wpAny_loadPart')
section
variable{prog:Program}{w:World}{A:Around}{E:Value ->Shared ->Prop}{s:Shared}
end
section
variable{X:Cx}{es:List Expr}{k:Nat}{tp:Pos}
end
end L2
namespace L2
open PySem PySem.Spec PyProof.Rows PySem.W
section
variable{X:Cx}
end
end L2
namespace L2
open PySem PySem.W PyProof.Rows
section
variable{X:Cx}{o e:Expr}{ta:TE}{m:Str}{apos pos:Pos}{j k:Nat}{ps:List Str}{ι:Type}{cw f:ι ->Addr}{fd:ι ->FuncData}{sp:ι ->Sp}{EH:EK}
end
section
variable{X:Cx}{a b e o:Expr}{es:List Expr}{ta tb te to:TE}{t:TA}{pos:Pos}{st:Stmt}{rest:List Stmt}{ts u:TS}
end
end L2
namespace L2
open PySem PySem.Spec PyProof.Rows PySem.W
section
variable{X:Cx}{x f:Str}{p cpos pos:Pos}{e:Expr}{t:TA}{C fI:Addr}{fdI:FuncData}{ps:List Str}{j k:Nat}
end
section
variable{X:Cx}{x y:Str}{e:Expr}{t:TE}{p q:Pos}{pos pos2:Pos}
end
end L2
namespace L2
open PySem PySem.Spec PyProof.Rows
end L2
namespace L2
open PySem PySem.Spec PyProof.Rows PySem.W
mutual
inductive RdR(H:Hp):V ->PyData ->Prop where
 |non:RdR H .non .none
 |bl (b:Bool):RdR H (.bl b) (.bool b)
 |int (i:Int):RdR H (.int i) (.int i)
 |str (x:Str):RdR H (.str x) (.str x)
 |tup {a:Addr} {xs:List V} {ds:List PyData} (h:H a=some (.tup xs)) (r:B0g H xs ds):RdR H (.ref a) (.tuple ds)
 |lst {a:Addr} {xs:List V} {ds:List PyData} (h:H a=some (.lst xs)) (n:a≠sysModules) (r:B0g H xs ds):RdR H (.ref a) (.list ds)
 |dct0 {a:Addr} (h:H a=some (.dK [])):RdR H (.ref a) (.dict [])
 |dct1 {a:Addr} {z:Str} {b:Bool} (h:H a=some (.dK [(.inr z,.bl b)])):RdR H (.ref a) (.dict [(.str z,.bool b)])
inductive B0g(H:Hp):List V ->List PyData ->Prop where
 |nil:B0g H [] []
 |cons {x:V} {xs:List V} {d:PyData} {ds:List PyData} (h:RdR H x d) (r:B0g H xs ds):B0g H (x::xs) (d::ds)
end
mutual
def RdR.same{H a:Hp}(s:∀b o,H b=some o ->a b=some o):∀{x:V} {d:PyData},RdR H x d ->RdR a x d
 |_,_,.non=> .non
 |_,_,.bl b=> .bl b
 |_,_,.int i=> .int i
 |_,_,.str x=> .str x
 |_,_,.tup h r=> .tup (s _ _ h) (B0g.same s r)
 |_,_,.lst h n r=> .lst (s _ _ h) n (B0g.same s r)
 |_,_,.dct0 h=> .dct0 (s _ _ h)
 |_,_,.dct1 h=> .dct1 (s _ _ h)
def B0g.same{H a:Hp}(s:∀b o,H b=some o ->a b=some o):∀{x:List V} {d:List PyData},B0g H x d ->B0g a x d
 |_,_,.nil=> .nil
 |_,_,.cons h r=> .cons (RdR.same s h) (B0g.same s r)
end
section
variable{X:Cx}
mutual
def RdR.reads{s:Shared}(I:Inv X G O H s):∀{x:V} {d:PyData} {u:Value},RdR H x d ->Y3 x u ->∃m,Reads s.heap u d m/\sysModules ∉ m
 |_,_,_,.non,r=>by cases r;exact⟨_,.none,by simp⟩
 |_,_,_,.bl b,r=>by cases r;exact⟨_,.bool b,by simp⟩
 |_,_,_,.int i,r=>by obtain⟨t,rfl⟩:=r;exact⟨_,.int i t,by simp⟩
 |_,_,_,.str x,r=>by obtain⟨t,rfl⟩:=r;exact⟨_,.str x t,by simp⟩
 | _,_,_,.tup h q,r=>by
   cases r
   obtain⟨_,C,p,o,e,c,n,d⟩:=I.hok _ _ h
   obtain⟨m,z,y⟩:=B0g.reads I q p
   exact⟨_,.tuple e c d (by simpa using z),y⟩
 | _,_,_,.lst (a:=a) h nn q,r=>by
   cases r
   obtain⟨_,C,n,p,e⟩:=I.hok _ _ h
   obtain⟨m,z,y⟩:=B0g.reads I q p
   refine⟨_,.list e rfl rfl (by simpa using z),fun g=>?_⟩
   rcases bM.mp g with g|g
   . exact nn g.symm
   . exact y g
 | _,_,_,.dct0 (a:=a) h,r=>by
   cases r
   obtain⟨_,v,vs,w,o,E,N,e,c,d,_,ps,_⟩:=I.hok _ _ h
   cases w
   cases D:E.toList with
   |cons _ _=>rw[D] at ps;cases ps
   | nil=>
     refine⟨_,.dict (kvs:=[]) e c.1 d (by rw[D];exact .nil) (by rw[D];exact .nil),fun g=>?_⟩
     exact cO.mp v (by simpa using g:sysModules=a).symm
 | _, _, _,.dct1 (a:=a) (z:=z) (b:=b) h,r=>by
   cases r
   obtain⟨_,v,vs,w,o,E,N,e,c,d,_,ps,_⟩:=I.hok _ _ h
   cases w with
   | cons k1 k2=>
     cases k2
     obtain⟨B,A⟩:=k1
     cases f:E.toList with
     |nil=>rw[f] at ps;cases ps
     | cons k F=>
       rw[f] at ps
       cases ps with
       | cons j L J=>
         cases J
         have l:∃t,k.key= .str z t:=by
           rw[<-B] at j
           have j:Value.isStrOf z k.key=true:=j
           cases l:k.key<;>rw[l] at j<;>simp[Value.isStrOf] at j
           subst j
           exact⟨_,rfl⟩
         obtain⟨t,l⟩:=l
         have M:k.val= .bool b:=L.trans A
         refine⟨_,.dict (kvs:=[(.str z,.bool b)]) e c.1 d (by rw[f];show ReadsAll s.heap [k.key] [.str z] _;rw[l];exact .cons (.str z t) .nil) (by rw[f];show ReadsAll s.heap [k.val] [.bool b] _;rw[M];exact .cons (.bool b) .nil),fun g=>?_⟩
         exact cO.mp v (by simpa using g:sysModules=a).symm
def B0g.reads{s:Shared}(I:Inv X b g H s):∀{xs:List V} {ds:List PyData} {us:List Value},B0g H xs ds ->U7 xs us ->∃a,ReadsAll s.heap us ds a/\sysModules ∉ a
 |_,_,_,.nil,r=>by cases r;exact⟨_,.nil,by simp⟩
 | _,_,_,.cons h q,r=>by
   cases r with
   | cons d c=>
     obtain⟨a,z,f⟩:=RdR.reads I h d
     obtain⟨bs,y,e⟩:=B0g.reads I q c
     exact⟨_,.cons z y,by simp[f,e]⟩
end
end
section
variable{X:Cx}{j k:Nat}{f C:Addr}{fd:FuncData}{ps:List Str}{sp:Sp}{dvs:List V}{ds:List Value}{x m:Str}{p pos apos:Pos}{e o:Expr}{es:List Expr}{ta:TE}{t:TA}{st:Stmt}
end
section
variable{cs:List Addr}{H H' H2:Hp}{b:Addr}{P:Program}{w:World}{h h':Heap}{fs:List Addr}
end
section
variable{X:Cx}{j k:Nat}{f:Addr}{fd:FuncData}{ps:List Str}{sp:Sp}{ds:List Value}{EH:EK}{x:Str}{p pos:Pos}{e:Expr}{es:List Expr}{t:TA}{st:Stmt}
end
section
variable{X:Cx}
end
section
variable{X:Cx}{tg:Expr}
end
section
variable{X:Cx}
end
section
variable{prog:Program}{w:World}{A:Around}{E:Value ->Shared ->Prop}{s:Shared}
end
section
variable{X:Cx}{pos:Pos}
end
section
variable{X:Cx}{pos tpos pa pb:Pos}
end
section
variable{X:Cx}{N F:List Str}{js:List Nat}{scope:Scope}
end
def Itq(lo c:Int)(n:Nat):It:=⟨fun i _=>i<n,fun i H x a=>a=H/\x= .int (lo+i*c),fun i _=>n<=i⟩
def C5g{K:PySem.W.Frag}(d:Addr)(lo c:Int)(n:Nat):G5c P w K M (Itq lo c n) [d] d (fun i h=>IsRangeIter h d (lo+(i:Nat)*c) ((n:Int)- (i:Nat)) c) where
 mem:=by simp
 obj :=fun i h st b f=>by
   have e:b=d:=by simpa using f
   subst e
   exact⟨_,st,fun v z=>by
     have D:Data.fields _=Data.cell v:=z
     cases D⟩
 keep:=fun i h h' st k=>k d (by simp) _ st
 item:=by
   intro X q l r p i a s C H E I j st m
   subst q l r
   obtain⟨B,A,G,y,x,u⟩:=j d (by simp)
   have W:=Walks.range (prog:=X.prog) (w:=X.w) (I.ok.hd p) d lo c n
   refine W.item i s _ _ m st fun v h' tk F g kk=>?_
   obtain⟨t,rfl⟩:=F
   have L:Inv X a C H {s with heap:=h',toks:=tk}:=I.turned (fun b o f e=>kk b o (by simpa using f) e) B A y x u
   exact⟨_,rfl,D4w (s:={s with heap:=h',toks:=tk}) (n:="range_iterator") g rfl rfl (by decide) ⟨.int (lo+i*c),H,L,⟨t,rfl⟩,⟨rfl,rfl⟩,g,fun b f=>(j b f).1⟩⟩
 done:=by
   intro X q l r p i a s C H E I j st m
   subst q l r
   obtain⟨B,A,G,y,x,u⟩:=j d (by simp)
   exact wpAny_pyNext_range_end (I.ok.hd p) st (by have:n<=i:=m;lia) fun h' J=>⟨rfl,I.turned (t':=s.toks) (fun b o f e=>J b o f e) B A y x u⟩
 self:=fun _ _ _ _ _ st h=>wpAny_pyIter_rangeiter st h
section
variable{X:Cx}{tg:Expr}
def D6r{s:Shared}{R:It ->Hp ->Prop}{lo d c:Int}{n:Nat}{tk:Nat}(I:Inv X a g H s)(h:Builtin.Range.small lo d c=true)(i:Builtin.Range.rangeSize lo d c=n)(q:R (Itq lo c n) H):wpAny (model X.prog X.w) X.A (pyIter (.ref s.heap.objs.size)) (PIE X a g tg R) E {s with heap:=s.heap.push {cls:= .type "range",data:= .fields #[.int lo t,.int d u,.int c v]},toks:=tk}:=by
 refine wpAny_pyIter_range (IsRange.new ..) h ?_
 have f:Inv X a g H {s with heap:=s.heap.push {cls:= .type "range",data:= .fields #[.int lo t,.int d u,.int c v]},toks:=tk}:=I.kept fun b o e=>aF _ e
 refine⟨(s.heap.push {cls:= .type "range",data:= .fields #[.int lo t,.int d u,.int c v]}).objs.size,[(s.heap.push {cls:= .type "range",data:= .fields #[.int lo t,.int d u,.int c v]}).objs.size],_,_,H,rfl,
   f.kept (t':=tk) fun b o e=>aF _ e,C5g _ lo c n,?_,fun b j=>?_,q⟩
 . have l:lo+((0:Nat):Int)*c=lo:=by simp
   have k:((n:Nat):Int)- ((0:Nat):Int)=Builtin.Range.rangeSize lo d c:=by rw[i];simp
   show IsRangeIter _ _ (lo+((0:Nat):Int)*c) ((n:Int)- ((0:Nat):Int)) c
   rw[l,k]
   exact bV _ rfl
 have e:b=(s.heap.push {cls:= .type "range",data:= .fields #[.int lo t,.int d u,.int c v]}).objs.size:=by simpa using j
 subst e
 exact f.fpOk (aO _) (f.hok.fresh (aO _))
def U6d(b:TA):TI:=fun a H R=>b a H fun vs d=>∃i j c:Int,∃n:Nat,vs=[.int i,.int j,.int c]/\c≠0/\Builtin.divisionGoesByPylong (j-i) c=false/\Builtin.Range.small i j c=true/\Builtin.Range.rangeSize i j c=n/\R (Itq i c n) d
def D6j(D:Gl X "range")(C:X.mg "range"=none)(E:PA X [a,b,c] u)(B:starEach [a,b,c] X.env=[(false,eval a X.env),(false,eval b X.env),(false,eval c X.env)]:=by rfl)(g:starEach [b,c] X.env=[(false,eval b X.env),(false,eval c X.env)]:=by rfl):
   PI X tg (.Call (.Name "range" p) [a,b,c] [] pos) (U6d u):=by
 intro f s o H R I h
 refine Call_ (B8r I D C boot_range (gJ (thn (E pos f s o H _ I h) fun us G m=>?_) (by rw[B,g]) (by rw[g];rfl)))
 obtain⟨vs,J,F,w,l⟩:=m
 obtain⟨i,j,c,n,e,l,A,z,y,q⟩:=l
 subst e
 cases w with
 | cons r d=>
   cases d with
   | cons x d=>
     cases d with
     | cons k d=>
       cases d
       obtain⟨t,rfl⟩:=r
       obtain⟨t',rfl⟩:=x
       obtain⟨v,rfl⟩:=k
       exact call_range_3 l (D6r F z y q) (.inl A)
end
section
variable{X:Cx}{pins:List (Addr×Obj)}{σ:St}{H:Hp}{s:Shared}
end
section
variable{X:Cx}{tg:Expr}
end
end L2
namespace TR
open PySem L2 PySem.W PyProof.Rows
structure U2a(K:Frag):Prop where
 isi:nsIn K mainGlobals "isinstance"=some none
 int_:nsIn K mainGlobals "int"=some none
 bool_:nsIn K mainGlobals "bool"=some none
 str_:nsIn K mainGlobals "str"=some none
 list_:nsIn K mainGlobals "list"=some none
 tuple_:nsIn K mainGlobals "tuple"=some none
 dict_:nsIn K mainGlobals "dict"=some none
 len_:nsIn K mainGlobals "len"=some none
 range_:nsIn K mainGlobals "range"=some none
 min_:nsIn K mainGlobals "min"=some none
 max_:nsIn K mainGlobals "max"=some none
 abs_:nsIn K mainGlobals "abs"=some none
 any_:nsIn K mainGlobals "any"=some none
 all_:nsIn K mainGlobals "all"=some none
 sum_:nsIn K mainGlobals "sum"=some none
 repr_:nsIn K mainGlobals "repr"=some none
 enumerate_:nsIn K mainGlobals "enumerate"=some none
 reversed_:nsIn K mainGlobals "reversed"=some none
 zip_:nsIn K mainGlobals "zip"=some none
 sorted_:nsIn K mainGlobals "sorted"=some none
 divmod_:nsIn K mainGlobals "divmod"=some none
 set_:nsIn K mainGlobals "set"=some none
 ValueError_:nsIn K mainGlobals "ValueError"=some none
def U2a.go{K:Frag}{h:Heap}(u:U2a K)(X:K.In h)(G:h.Ns mainGlobals Y):Own Y:=⟨cJ X G u.isi,cJ X G u.int_,cJ X G u.bool_,cJ X G u.str_,cJ X G u.list_,cJ X G u.tuple_,cJ X G u.dict_,cJ X G u.len_,cJ X G u.range_,cJ X G u.min_,cJ X G u.max_,cJ X G u.abs_,cJ X G u.any_,cJ X G u.all_,cJ X G u.sum_,cJ X G u.repr_,cJ X G u.enumerate_,cJ X G u.reversed_,cJ X G u.zip_,cJ X G u.sorted_,cJ X G u.divmod_,cJ X G u.set_,cJ X G u.ValueError_⟩
end TR
namespace L2
open PySem PySem.Spec PyProof.Rows PySem.W
section
variable{X:Cx}{j k:Nat}{f:Addr}{EH:EK}{x y:Str}{p p1 pos:Pos}
end
section
variable{X:Cx}{N F:List Str}{js:List Nat}{scope:Scope}
end
section
variable{X:Cx}{N F:List Str}{js:List Nat}{scope:Scope}
end
section
variable{P:Program}{w:World}{K:Frag}{Y:Str ->Option Value}{Z:Heap}{k:Nat}{f:Addr}{fd:FuncData}{ps:List Str}{sp:Sp}
end
section
variable{P:Program}{w:World}{K:Frag}{Y:Str ->Option Value}{Z:Heap}
end
section
variable{X:Cx}{k j:Nat}{f C:Addr}{fd:FuncData}{ps:List Str}{sp:Sp}{dvs:List V}{ds:List Value}{EH:EK}{x m:Str}{st:Stmt}{p pos apos:Pos}{e o:Expr}{es:List Expr}{ta:TE}{t:TA}
end
section
variable{X:Cx}
end
section
variable{X:Cx}{x:Str}{p cpos pos:Pos}{e:Expr}{es:List Expr}{t:TA}{C:Addr}{bmB:List Value}{B newId initId:String}{EH:EK}
end
section
variable{X:Cx}{x f:Str}{p cpos pos:Pos}{e:Expr}{t:TA}{C fI:Addr}{fdI:FuncData}{ps:List Str}{EH:EK}{j k:Nat}
end
end L2
namespace TR
open PySem L2 PySem.W PyProof.Rows
end TR
namespace L2
open PySem PySem.Spec PyProof.Rows PySem.W
section
variable{X:Cx}{x n:Str}{np hpos pos:Pos}{R:Addr}{i:Nat}{body suite:List Stmt}{b₀:Stmt}{tb:EK ->TS}{ts:Addr ->TS}
end
section
variable{X:Cx}{k j:Nat}{f C:Addr}{fd:FuncData}{ps:List Str}{sp:Sp}{dvs:List V}{ds:List Value}{m:Str}{pos apos:Pos}{e o:Expr}{es:List Expr}{ta:TE}{t:TA}
end
section
variable{X:Cx}{j k:Nat}{f C:Addr}{fd:FuncData}{ps:List Str}{sp:Sp}{dvs:List V}{ds:List Value}{x m:Str}{p pos apos:Pos}{e o:Expr}{es:List Expr}{ta:TE}{t:TA}{st:Stmt}
end
section
variable{X:Cx}
end
section
variable{X:Cx}
end
section
variable{X:Cx}
end
end L2
namespace L2
open PySem PySem.Spec PyProof.Rows
end L2
namespace L2
open PySem PySem.Spec PyProof.Rows PySem.W
section
variable{X:Cx}
inductive U2d(x:V)(vs:List V)(H:Hp)(Q:VK):Prop
 |mk(z)(_:x= .str z)(_:vs=[])(_:(Txt.lower z).length<=sizeLine)(_:Q (.str (Txt.lower z)) H)
def G1x:MtR X "str.lower" U2d:=by
 intro a s e H x vs v us Q I b c h
 obtain⟨z,rfl,rfl,d,q⟩:=h
 obtain⟨t,rfl⟩:=(show∃t,v=Value.str z t from b)
 rw[c.zero]
 exact SC.lower (C2k d) ⟨.str _,H,I.tok _,⟨_,rfl⟩,q⟩
inductive U1k(x:V)(vs:List V)(H:Hp)(Q:VK):Prop
 |mk(z y)(_:x= .str z)(_:vs=[.str y])(_:z.length<=sizeLine)(_:Q (.str (Txt.stripChars z y)) H)
def C5k:MtR X "str.strip" U1k:=by
 intro a s f H x vs v us Q I b c h
 obtain⟨z,y,rfl,rfl,e,q⟩:=h
 obtain⟨t,rfl⟩:=(show∃t,v=Value.str z t from b)
 obtain⟨u,rfl,d⟩:=c.one
 obtain⟨k,rfl⟩:=(show∃k,u=Value.str y k from d)
 exact SC.stripChars (fun t' k=>⟨.str _,H,I.tok _,⟨_,rfl⟩,q⟩) e
inductive J5v(x:V)(vs:List V)(H:Hp)(Q:VK):Prop
 |mk(z y)(_:x= .str z)(_:vs=[.str y])(_:z.length<=sizeLine)(_:Q (.str (Txt.lstripChars z y)) H)
def D5w:MtR X "str.lstrip" J5v:=by
 intro a s f H x vs v us Q I b c h
 obtain⟨z,y,rfl,rfl,e,q⟩:=h
 obtain⟨t,rfl⟩:=(show∃t,v=Value.str z t from b)
 obtain⟨u,rfl,d⟩:=c.one
 obtain⟨k,rfl⟩:=(show∃k,u=Value.str y k from d)
 exact SC.lstripChars (fun t' k=>⟨.str _,H,I.tok _,⟨_,rfl⟩,q⟩) e
inductive U1s(x:V)(vs:List V)(H:Hp)(Q:VK):Prop
 |mk(z i)(_:x= .str z)(_:vs=[.int i])(_:PadOk i=true)(_:Q (.str (Txt.zfill z i)) H)
def B2g:MtR X "str.zfill" U1s:=by
 intro a s f H x vs v us Q I b c h
 obtain⟨z,i,rfl,rfl,e,q⟩:=h
 obtain⟨t,rfl⟩:=(show∃t,v=Value.str z t from b)
 obtain⟨u,rfl,d⟩:=c.one
 obtain⟨k,rfl⟩:=(show∃k,u=Value.int i k from d)
 exact SC.zfill e (fun t' k=>⟨.str _,H,I.tok _,⟨_,rfl⟩,q⟩)
inductive J5x(x:V)(vs:List V)(H:Hp)(Q:VK):Prop
 |mk(z y)(_:x= .str z)(_:vs=[.str y])(_:Q (.bl (Txt.startswith z y)) H)
def B3q:MtR X "str.startswith" J5x:=by
 intro a s e H x vs v us Q I b c h
 obtain⟨z,y,rfl,rfl,q⟩:=h
 obtain⟨t,rfl⟩:=(show∃t,v=Value.str z t from b)
 obtain⟨u,rfl,d⟩:=c.one
 obtain⟨k,rfl⟩:=(show∃k,u=Value.str y k from d)
 exact SC.startswith ⟨.bl _,H,I,rfl,q⟩
def D1d(x : Str)(t : Tok)(l : Addr)(a b : Str)(i g : Tok)(n : Nat)(dd : Option Addr)(j : Array (Option Value)): Meets (Builtin.«str.startswith» { pos := [Value.str x t, Value.ref l] }) fun _ R s => s.heap.get? l = some { cls := .type "tuple", dict := dd, data := Data.seq #[.str a i, .str b g] n, slots := j } /\ R (Except.ok (Flow.ret (.bool (Txt.startswith x a || Txt.startswith x b)))) s :=
 Meets.of_wp fun prog w A R s h=>by
   obtain⟨f,h⟩:=h
   refine aE (wpAny_of_eq (show Builtin.Str.strSomeArgs "startswith" 1 3 {pos:=[Value.str x t,Value.ref l]}=pure (Value.str x t,x,[Value.ref l]) from rfl) ?_)
   refine aE (wpAny_of_eq (show Builtin.Str.searchRange x.length []=pure (0,min x.length x.length) from rfl) ?_)
   refine aE ?_
   refine aE (wpAny_load f ?_)
   refine aR ?_
   refine aE (wpAny_isInstance (T:="tuple") (U:="tuple") (b:=true) ⟨_,f,rfl⟩ ?_ ?_)
   . exact sub_tuple_self
   refine wpAny_ite_true rfl ?_
   refine aE (wpAny_rule ?_)
   refine aE (wpAny_seqItems f rfl ?_)
   refine aE ?_
   rw[<-Array.forIn_toList]
   rw[kI]
   refine aE ?_
   refine aE ?_
   refine aR ?_
   have c:∀y,(decide (0+y.length<=min x.length x.length)&&Builtin.Str.subAt x y 0)=Txt.startswith x y:=fun y=>by
     rw[Nat.min_self]
     rfl
   cases e:Txt.startswith x a with
   | true=>
     refine wpAny_ite_true (aT ((c a).trans e)) ?_
     refine aE (aR ?_)
     refine aR ?_
     refine aR ?_
     refine aR ?_
     rw[e] at h
     exact⟨_,rfl,h⟩
   | false=>
     refine wpAny_ite_false (aI (fun z=>aB (e.symm.trans ((c a).symm.trans z)))) ?_
     refine aR ?_
     show wpAny _ _ (forIn [Value.str b g] (none,()) _) _ _ _
     rw[kI]
     refine aE ?_
     refine aE ?_
     refine aR ?_
     rw[e,Bool.false_or] at h
     cases d:Txt.startswith x b with
     | true=>
       refine wpAny_ite_true (aT ((c b).trans d)) ?_
       refine aE (aR ?_)
       refine aR ?_
       refine aR ?_
       refine aR ?_
       rw[d] at h
       exact⟨_,rfl,h⟩
     | false=>
       refine wpAny_ite_false (aI (fun z=>aB (d.symm.trans ((c b).symm.trans z)))) ?_
       refine aR ?_
       show wpAny _ _ (forIn [] (none,()) _) _ _ _
       rw[List.forIn_nil]
       refine aR ?_
       rw[d] at h
       exact aR ⟨_,rfl,h⟩
inductive G5k(x:V)(vs:List V)(H:Hp)(Q:VK):Prop
 |mk(z p a b)(_:x= .str z)(_:vs=[.ref p])(_:H p=some (.tup [.str a,.str b]))(_:Q (.bl (Txt.startswith z a||Txt.startswith z b)) H)
def D1t:MtR X "str.startswith" G5k:=by
 intro f s y H x vs v us Q I i j h
 obtain⟨z,p,a,b,rfl,rfl,m,q⟩:=h
 obtain⟨t,rfl⟩:=(show∃t,v=Value.str z t from i)
 obtain⟨u,rfl,k⟩:=j.one
 cases k
 obtain⟨_,d,r,⟨l,e,w,n,o⟩⟩:=(show A1g X.prog X.w H s.heap p (.tup [.str a,.str b]) from I.hok p _ m)
 obtain⟨A,u2,rfl,⟨k1,rfl⟩,⟨k2,rfl⟩⟩:=D9j r
 obtain⟨c,dd,B,g⟩:=l
 cases w
 cases o
 exact jB iX (iG _ _ _) F.entry_str_startswith (F.args_str_startswith_2 _ _) (D1d z t p a b k1 k2 n dd g) ⟨e,.bl _,H,I,rfl,q⟩
inductive U8v(x:V)(vs:List V)(H:Hp)(Q:VK):Prop
 |mk(z y)(_:x= .str z)(_:vs=[.str y])(_:(y.length==0)=false)(_:z.length<=sizeLine)(_:∀p,H p=none ->Q (.ref p) (upd H p (.tup [.str (Txt.partition z y).1,.str (Txt.partition z y).2.1,.str (Txt.partition z y).2.2])))
def D4g:MtR X "str.partition" U8v:=by
 intro a s f H x vs v us Q I g j h
 obtain⟨z,y,rfl,rfl,p,m,q⟩:=h
 obtain⟨t,rfl⟩:=(show∃t,v=Value.str z t from g)
 obtain⟨u,rfl,l⟩:=j.one
 obtain⟨k,rfl⟩:=(show∃k,u=Value.str y k from l)
 refine jB F.slot_str_partition (iG _ _ _) F.entry_str_partition (F.args_str_partition_2 _ _) (meets_str_partition z y t k p m) ?_
 have fin:∀d c tc h' n,h'=s.heap.push {cls:= .type "tuple",data:= .seq [Value.str (Txt.partition z y).1 d,.str (Txt.partition z y).2.1 c,.str (Txt.partition z y).2.2 tc].toArray} ->EP X a f Q (.ref s.heap.objs.size) {s with heap:=h',toks:=n}:=by
   intro d c tc h' n e
   subst e
   exact⟨.ref s.heap.objs.size,upd H s.heap.objs.size (.tup [.str (Txt.partition z y).1,.str (Txt.partition z y).2.1,.str (Txt.partition z y).2.2]),I.laid (fun b o e=>aF _ e) (aO _) ⟨C6 (by show 3<=1000;decide),[.str _ d,.str _ c,.str _ tc],.cons ⟨_,rfl⟩ (.cons ⟨_,rfl⟩ (.cons ⟨_,rfl⟩ .nil)),⟨_,bV s.heap rfl,rfl,0,rfl⟩⟩,rfl,q _ (I.hok.fresh (aO _))⟩
 revert fin
 unfold Txt.partition
 cases Builtin.Str.occurrences z y 0 z.length 1 with
 |nil=>intro h';exact h' _ _ _ _ _ rfl
 |cons i r=>intro h';exact h' _ _ _ _ _ rfl
def U4x(b:EK ->TS):TS:=fun D a H=>b (fun _ _ _ _=>False) D a H
def J1f{k:EK ->TS}(q:∀b m g,U6 (X.hold b m) g ->PSs (X.hold b m) d (k g)):
   PS X (.Try d [.ExceptHandler ty nm i l] [] [] pos) (U4x k):=by
 intro b s o H D I h
 refine wpAny_Try_except ?_
 refine bX (q b _ (fun _ _ _ _=>False) ?cat [] s o H D I.hold h) (fun f p c=>?_) (fun e p he=>he)
 case cat=>
   intro j n x v a t C dd w y r
   exact r.elim
 cases f with
 |next=>exact gG (SP.unhold c)
 |brk=>exact SP.unhold c
 |cont=>exact SP.unhold c
 |ret u=>exact SP.unhold c
end
def S(l:List Nat):Str:=⟨l.toArray⟩
def A1h(l:List Nat):(S l).cps.toList=l:=rfl
def J1(l:List Nat):(S l).length=l.length:=by
 show l.toArray.size=l.length
 simp
def B0e(z:Str):S z.cps.toList=z:=by
 unfold S
 rw[Array.toArray_toList]
def C7r(h:S l=S m):l=m:=by
 have:=aM (fun z:Str=>z.cps.toList) h
 exact this
def A0g(l m:List Nat):S l++S m=S (l++m):=by
 rw[<-B0e (S l++S m),jO,iA]
 rfl
def B7n(l:List Nat)(i j:Nat):Builtin.Str.strSub (S l) i j=S ((l.take j).drop i):=by
 unfold Builtin.Str.strSub
 rw[<-B0e (⟨(S l).cps.extract i j⟩:Str)]
 congr 1
 show((S l).cps.extract i j).toList=_
 rw[jG,A1h]
 rw[jU,kR]
def A8a(l:List Nat)(c:Nat):Txt.startswith (S l) (S [c])=decide (l.head?=some c):=by
 unfold Txt.startswith Builtin.Str.subAt
 rw[J1,J1]
 cases l with
 |nil=>rfl
 | cons a t=>
   have e:(S (a::t)).cps.extract 0 (0+ [c].length)= #[a]:=by
     apply Array.toList_inj.mp
     rw[jG,A1h]
     rfl
   rw[e]
   show(decide (0+1<=t.length+1)&&(#[a]== #[c]))=decide (some a=some c)
   rw[aT (by lia),Bool.true_and]
   by_cases h:a=c
   . subst h
     simp
   . rw[aI (fun z=>h (bF z))]
     simp[h]
def J3t(l:List Nat)(a n:Nat)(h:a+n<=l.length):((List.range n).map fun k=>a+k).filterMap ((S l).cps[·]?)=(l.drop a).take n:=by
 induction n with
 |zero=>simp
 | succ n b=>
   rw[kJ,cL,List.filterMap_append,b (by lia)]
   have e:(S l).cps[a+n]?=some (l[a+n]'(by lia)):=by
     show l.toArray[a+n]?=_
     simp
   rw[show(l.drop a).take (n+1)=(l.drop a).take n++ [l[a+n]'(by lia)] by
     rw[kS,List.getElem?_drop,aY (by lia)]
     rfl]
   simp[e]
def J6t(l:List Nat)(lo c:Option Int)(a b:Nat)(d:a<=b)(e:b<=l.length)(h:Builtin.Str.strSliceIndices lo c 1 l.length=(List.range (b-a)).map fun k=>a+k):B5v (S l) lo c=S ((l.take b).drop a):=by
 unfold B5v
 rw[J1,h]
 have len:((List.range (b-a)).map fun k=>a+k).length=b-a:=by simp
 rw[len]
 split
 . rename_i z
   have z:b-a=l.length:=by simpa using z
   have:a=0:=by lia
   have:b=l.length:=by lia
   subst_vars
   rw[eV]
   rfl
 rw[J3t l a (b-a) (by lia),kR]
 rfl
def C5r(n:Nat)(d:Int):Option Int ->Int
 |none=>d
 |some i=>max 0 (min (if i<0 then i+n else i) n)
def J7f(lo d:Option Int)(n a b:Nat)(f:a<=b)(h:C5r n 0 lo=(a:Int))(g:C5r n n d=(b:Int)):Builtin.Str.strSliceIndices lo d 1 n=(List.range (b-a)).map fun j=>a+j:=by
 have e:Builtin.Str.strSliceIndices lo d 1 n=PySem.sliceRange (C5r n 0 lo) (C5r n n d) 1:=by
   cases lo<;>cases d<;>rfl
 rw[e,h,g]
 unfold PySem.sliceRange
 rw[aC (by decide)]
 have c:(if(a:Int)<b then((b:Int)-a+1-1)/1 else 0).toNat=b-a:=by
   split<;>lia
 dsimp only
 rw[c]
 apply eZ
 intro k _
 lia
def A6e(l:List Nat)(k:Nat)(h:k<=l.length):B5v (S l) (some (k:Int)) none=S (l.drop k):=by
 have:=J6t l (some (k:Int)) none k l.length h (aO _) (J7f _ _ _ _ _ h (by unfold C5r;dsimp only;lia) (by unfold C5r;rfl))
 rw[this,eV]
def D9w(l:List Nat)(k:Nat)(h:k<=l.length):B5v (S l) none (some (k:Int))=S (l.take k):=by
 have:=J6t l none (some (k:Int)) 0 k (bP _) h (J7f _ _ _ _ _ (bP _) (by unfold C5r;dsimp only;lia) (by unfold C5r;dsimp only;lia))
 rw[this,List.drop_zero]
def J2t{l:List Nat}(h:∀c∈l,c<128):Txt.lower (S l)=S (l.map lo1):=by
 rw[lower_ascii (x:=S l) h]
 unfold S
 simp
def U4r{c:Nat}(h:¬(65<=c/\c<=90)):lo1 c=c:=by
 unfold lo1
 rw[aA h]
def B2m(p:Nat ->Bool):∀l:List Nat,l.drop (l.takeWhile p).length=l.dropWhile p
 | []=>rfl
 | a ::t=>by
   cases h:p a with
   | true=>
     rw[List.takeWhile_cons_of_pos h,cV h]
     exact B2m p t
   | false=>
     rw[List.takeWhile_cons_of_neg (by rw[h];exact aB),eO (by rw[h];exact aB)]
     rfl
def B2q(l:List Nat)(p:List Nat):Txt.lstripChars (S l) (S p)=S (l.dropWhile p.contains):=by
 have a:(S p).cps.contains=p.contains:=by
   funext c
   show p.toArray.contains c=_
   simp
 unfold Txt.lstripChars
 rw[PyProof.Rows.stripBy_eq,a]
 unfold stripLo stripHi
 rw[aC rfl,aA (by decide),B7n,J1,eV,A1h]
 congr 1
 exact B2m _ l
def C4e(l:List Nat)(p:List Nat):Txt.stripChars (S l) (S p)=S ((l.dropWhile p.contains).reverse.dropWhile p.contains).reverse:=by
 have a:(S p).cps.contains=p.contains:=by
   funext c
   show p.toArray.contains c=_
   simp
 unfold Txt.stripChars
 rw[PyProof.Rows.stripBy_eq,a]
 unfold stripLo stripHi
 rw[aC rfl,aC rfl,B7n,J1,A1h,B2m]
 congr 1
 have b:(l.takeWhile p.contains).length+(l.dropWhile p.contains).length=l.length:=by
   rw[<-aG,iW]
 have dl:((l.dropWhile p.contains).reverse.takeWhile p.contains).length<=(l.dropWhile p.contains).length:=by
   have h:=aM List.length (iW (p:=p.contains) (l:=(l.dropWhile p.contains).reverse))
   rw[aG,fi] at h
   lia
 rw[kR,B2m, <-B2m p.contains (l.dropWhile p.contains).reverse,List.drop_reverse,List.reverse_reverse]
 congr 1
 lia
def U0v(l:List Nat)(c i:Nat):StrLaws.At (S l) (S [c]) (S l).length i↔l[i]?=some c:=by
 unfold StrLaws.At Builtin.Str.subAt
 rw[J1,J1]
 have e:((S l).cps.extract i (i+ [c].length)).toList=(l.drop i).take 1:=by
   rw[jG,A1h,jU]
   congr 1
   simp
 constructor
 . rintro⟨f,b⟩
   have b:(S l).cps.extract i (i+ [c].length)=(S [c]).cps:=by simpa using b
   have a:=aM Array.toList b
   rw[e,A1h] at a
   have f:i+1<=l.length:=f
   rw[jV (by lia)] at a
   rw[aY (by lia)]
   exact aM some (List.cons.inj a).1
 intro h
 obtain⟨d,he⟩:=bQ.mp h
 refine⟨d,?_⟩
 have:(S l).cps.extract i (i+ [c].length)=(S [c]).cps:=by
   apply Array.toList_inj.mp
   rw[e,A1h,jV d,he]
   rfl
 rw[this]
 simp
def D2m{c:Nat}(h:c ∉ l):Txt.partition (S l) (S [c])=(S l,S [],S []):=by
 unfold Txt.partition
 rcases StrLaws.occ_head (S l) (S [c]) 1 (aO _) with⟨e,_⟩|⟨i,r,e,a,_⟩
 . rw[e]
   rfl
 exact absurd (cF ((U0v l c i).mp a)) h
def D3f{c:Nat}(h:c ∉ a):Txt.partition (S (a++c::b)) (S [c])=(S a,S [c],S b):=by
 unfold Txt.partition
 have d:StrLaws.At (S (a++c::b)) (S [c]) (S (a++c::b)).length a.length:=(U0v _ _ _).mpr (by simp)
 rcases StrLaws.occ_head (S (a++c::b)) (S [c]) 1 (aO _) with⟨e,f⟩|⟨i,r,e,j,f⟩
 . exact absurd d (f _)
 have k:i=a.length:=by
   have l:¬a.length<i:=fun z=>f _ z d
   have m:¬i<a.length:=fun z=>by
     have g:=(U0v _ _ _).mp j
     rw[cH z] at g
     exact h (cF g)
   lia
 rw[e]
 dsimp only
 rw[B7n,B7n,J1,J1,k]
 congr 2
 . simp
 congr 1
 rw[iP (by simp),Nat.add_comm,show [c].length=1 from rfl,Nat.add_comm, <-List.drop_drop,List.drop_left]
 rfl
def D3b(l:List Nat)(n:Nat)(b:l.head?≠some 43)(a:l.head?≠some 45):Txt.zfill (S l) (n:Int)=S (List.replicate (n-l.length) 48++l):=by
 unfold Txt.zfill
 rw[J1]
 split
 . rw[show n-l.length=0 by lia]
   rfl
 have e:zfilled (S l) ((n:Int).toNat-l.length)=Builtin.Str.padded (S l) ((n:Int).toNat-l.length) 0 48:=by
   unfold zfilled
   have c:(S l).cps[0]?=l.head?:=by
     show l.toArray[0]?=_
     cases l<;>rfl
   rw[c]
   split
   . exact absurd (by assumption) b
   . exact absurd (by assumption) a
   . rfl
 rw[e]
 unfold Builtin.Str.padded S
 simp
def dig(n:Nat):List Nat:=(Nat.toDigits 10 n).map Char.toNat
def B4n(n:Nat):Str.ofString (toString (n:Int))=S (dig n):=by
 rw[<-B0e (Str.ofString (toString (n:Int)))]
 congr 1
 exact KIN.signs_num n
end L2
namespace L2
open PySem PySem.Spec PyProof.Rows PySem.W PySem.NumText
def A9x{n:Nat}(h:n<10):dig n=[48+n]:=by
 unfold dig
 rw[Nat.toDigits_of_lt_base h]
 show [(Nat.digitChar n).toNat]=_
 have:∀d:Nat,d<10 ->(Nat.digitChar d).toNat=48+d:=by decide
 rw[this n h]
def B8c{n:Nat}(h:10<=n):dig n=dig (n/10)++ [48+n % 10]:=by
 have a:n % 10<10:=Nat.mod_lt n (by decide)
 have t:Nat.toDigits 10 (n/10)++Nat.toDigits 10 (n % 10)=Nat.toDigits 10 (10*(n/10)+n % 10):=Nat.toDigits_append_toDigits (by decide) (by lia) a
 rw[Nat.div_add_mod] at t
 have e:dig n=dig (n/10)++dig (n % 10):=by
   unfold dig
   rw[<-t,cL]
 rw[e,A9x a]
def A4n(n:Nat):AllDigits (dig n):=by
 induction n using Nat.strongRecOn with
 | _ n b=>
   by_cases h:n<10
   . rw[A9x h]
     intro c a
     rw[bE.mp a]
     lia
   . rw[B8c (by lia)]
     intro c a
     rcases bO.mp a with a|a
     . exact b (n/10) (by lia) c a
     . rw[bE.mp a]
       lia
def B0y(n:Nat):dig n≠ []:=by
 by_cases h:n<10
 . rw[A9x h]
   exact fun z=>nomatch z
 rw[B8c (by lia)]
 simp
def B3c(n:Nat):digitsVal (dig n)=n:=KIN.val_back n
def A4m{n k:Nat}(h:n<10^k)(d:1<=k):(dig n).length<=k:=by
 induction k generalizing n with
 |zero=>lia
 | succ k c=>
   by_cases b:n<10
   . rw[A9x b]
     show 1<=k+1
     lia
   . rw[B8c (by lia),aG]
     have a:1<=k:=by
       cases k with
       |zero=>simp at h;lia
       |succ k=>lia
     have:=c (n:=n/10) (by rw[eA] at h;lia) a
     show _+1<=_
     lia
def D8t(l:List Nat):∀a:Nat,l.foldl (fun b c=>b*10+(c-48)) a=a*10^l.length+digitsVal l:=by
 unfold digitsVal
 induction l with
 |nil=>intro a;simp
 | cons c t d=>
   intro a
   rw[List.foldl_cons,d,List.foldl_cons,d (0*10+(c-48)),bK,eA]
   rw[Nat.zero_mul,Nat.zero_add,kT,jC,fo 10,Nat.add_assoc]
def C4b(l m:List Nat):digitsVal (l++m)=digitsVal l*10^m.length+digitsVal m:=by
 rw[show digitsVal (l++m)=m.foldl (fun a c=>a*10+(c-48)) (digitsVal l) by unfold digitsVal;rw[List.foldl_append]]
 exact D8t m _
def A9s(k:Nat)(l:List Nat):digitsVal (List.replicate k 48++l)=digitsVal l:=by
 rw[C4b]
 have:digitsVal (List.replicate k 48)=0:=by
   induction k with
   |zero=>rfl
   | succ k a=>
     rw[show List.replicate (k+1) 48=[48]++List.replicate k 48 from rfl,C4b,a]
     show(0*10+0)*_+0=0
     lia
 rw[this,Nat.zero_mul,Nat.zero_add]
def C5j(l:List Nat):digitsVal (l.dropWhile ([48]:List Nat).contains)=digitsVal l:=by
 induction l with
 |nil=>rfl
 | cons c t a=>
   by_cases h:c=48
   . subst h
     rw[cV (by decide),a]
     exact(A9s 1 t).symm
   . rw[eO (by simp[h])]
def U1m:List Nat:=[48,49,50,51,52,53,54,55,56,57]
def C6t(c:Nat):U1m.contains c=true↔48<=c/\c<=57:=by
 unfold U1m
 simp
 omega
def C9k{p:Nat ->Bool}:∀{l:List Nat},l.dropWhile p=[] ->∀c∈l,p c=true
 | [],_,c,b=>nomatch b
 | a ::t,h,c,b=>by
   cases d:p a with
   | true=>
     rw[cV d] at h
     rcases bM.mp b with rfl|b
     . exact d
     . exact C9k h c b
   | false=>
     rw[eO (by rw[d];exact aB)] at h
     cases h
def G3z{p:Nat ->Bool}:∀{l:List Nat},(∀c∈l,p c=true) ->l.dropWhile p=[]
 | [],_=>rfl
 | a::t,h=>by
   rw[cV (h a (aH ..))]
   exact G3z fun c b=>h c (aJ _ b)
def D3z{p:Nat ->Bool}:∀{l:List Nat} {a:Nat} {t:List Nat},l.dropWhile p=a::t ->p a=false
 | [],_,_,h=>nomatch h
 | b ::u,a,t,h=>by
   cases c:p b with
   | true=>
     rw[cV c] at h
     exact D3z h
   | false=>
     rw[eO (by rw[c];exact aB)] at h
     injection h with d e
     rw[<-d]
     exact c
def C8q{l p:List Nat}:Txt.stripChars (S l) (S p)=S []↔∀c∈l,p.contains c=true:=by
 rw[C4e]
 constructor
 . intro h
   have h:=C7r h
   rw[List.reverse_eq_nil_iff] at h
   have d:=C9k h
   cases b:l.dropWhile p.contains with
   |nil=>exact C9k b
   | cons a t=>
     have:=D3z b
     rw[d a (by rw[b];simp)] at this
     cases this
 intro h
 rw[G3z h]
 rfl
end L2
namespace L2
open PySem PySem.Spec PyProof.Rows PySem.W
section
variable{X:Cx}
end
section
variable{X:Cx}{j k:Nat}{f C:Addr}{fd:FuncData}{ps:List Str}{sp:Sp}{dvs:List V}{ds:List Value}{EH:EK}{x m:Str}{p pos apos:Pos}{e o:Expr}{es:List Expr}{ta:TE}{t:TA}{st:Stmt}
end
section
variable{P:Program}{w:World}{K:PySem.W.Frag}{Y:Str ->Option Value}{Z:Heap}
end
section
variable{prog:Program}{w:World}{A:Around}{E:Value ->Shared ->Prop}{s:Shared}{env:Env}
variable{nm q:Str}{C N:Addr}{bs bm bmB:List Value}{hdct:Bool}{sn:List Str}{sub:List Value}{ab:Bool}{col:Option Bool}{dd:Option Addr}{k0 k1 k2 k3 k5:Option Value}{newId:String}
end
section
variable{X:Cx}{x y:Str}{np hpos pos p cpos rpos cp:Pos}{R C:Addr}{body:List Stmt}{e:Expr}{es:List Expr}{tb:EK ->TS}{t:TA}{bmB:List Value}{B newId initId:String}{EH:EK}
end
section
variable{X:Cx}{x n:Str}{np hpos pos:Pos}{R:Addr}{i:Nat}{body suite:List Stmt}{b₀:Stmt}{tb:EK ->TS}{ts:Addr ->TS}
end
section
variable{X:Cx}{pins:List (Addr×Obj)}{σ:St}{H:Hp}{s:Shared}{a:Addr}{t:XT}{C:Value}{dd:Option Addr}
end
def PH(X:Cx)(e:List ExceptHandler)(d:Value ->Option Addr ->TS):Prop:=
 ∀(b:List (Addr×Obj)) (c:St) (H:Hp) (s:Shared) (a t:Addr) (C:Value) (dd:Option Addr) (D:B0h),Inv X b c H s ->B0t X b H s a C t dd .none ->d C dd D c H ->wpAny (model X.prog X.w) X.A (handleBy (.ref a) X.env e) (SP X b D) X.xe s
def U4v:Value ->Option Addr ->TS:=fun _ _ _ _ _=>False
def V1u(K:Frag)(R:Addr)(c:Addr ->TS)(d:Value ->Option Addr ->TS):Value ->Option Addr ->TS:=fun C dd D b H=>
 (subIn K C (.ref R)=some true/\∀(a t T:Addr),H a=none ->c a D b (upd H a (.frz (A1u C t dd (.ref T)) (.own a))))\/(subIn K C (.ref R)=some false/\d C dd D b H)
def hAs(K:Frag)(R:Addr)(i:Nat)(e:Addr ->TS)(f:Value ->Option Addr ->TS):Value ->Option Addr ->TS:=fun C dd D d H=>
 (subIn K C (.ref R)=some true/\∀(a t T:Addr),H a=none ->e a {nx:=fun b c=>D.nx (b.set i none) c,rt:=D.rt,bk:=fun b c=>D.bk (b.set i none) c,ct:=fun b c=>D.ct (b.set i none) c} (d.set i (some (.ref a))) (upd H a (.frz (A1u C t dd (.ref T)) (.own a))))\/(subIn K C (.ref R)=some false/\f C dd D d H)
def U6h(c:Value ->Option Addr ->TS)(d:EK ->TS):TS:=fun D b H=>d (fun C dd a e=>c C dd D a e) D b H
section
variable{X:Cx}{x n:Str}{np hpos pos:Pos}{R:Addr}{i:Nat}{body suite:List Stmt}{b₀:Stmt}{tb:EK ->TS}{ts:Addr ->TS}{rest:List ExceptHandler}{tr:Value ->Option Addr ->TS}{h₀:ExceptHandler}
def C1z:PH X [] U4v:=fun _ _ _ _ _ _ _ _ _ _ _ h=>h.elim
def C1x(O:X.mg x=some (.ref R))(c:B1d X.K R)(M:∀b a,PSs (X.hnd b a) (b₀::suite) (ts a))(N:PH X rest tr)(P:Gl X x:=by rfl)(m:(x==("__debug__":Str))=false:=by decide):
   PH X (.ExceptHandler (some (.Name x np)) none (b₀::suite) hpos::rest) (V1u X.K R ts tr):=by
 intro b w H s a t C dd D J F h
 obtain⟨na,T,oT,B,y,I,L,U,Y,Q⟩:=id F
 refine wpAny_handleBy_cons (codeAny_handlers_test ?_) (by intro z;cases z)
 have K3:Inv (X.hnd b a) [] w H s:=J.hnd
 refine A2e K3 P O ?_ m
 rcases h with⟨d,o⟩|⟨d,o⟩
 . refine A9v J.kIn y rfl c d ?_
   show codeAny _ _ _ _ _
   refine codeAny_handlers_suite ?_
   refine B3d J F fun E J4 F4=>?_
   obtain⟨k,Z,G,A,W,_⟩:=id F4
   have l:=J4.track k W
   refine bX (M b a [] E _ _ _ l.hnd (o a t Z k.un)) (fun f s6 e=>?_) (fun _ _ z=>z.elim)
   cases f with
   |next=>obtain⟨g,p,j,q⟩:=e;exact⟨_,_,j.unhnd l.ok,q⟩
   |brk=>obtain⟨g,p,j,q⟩:=e;exact⟨_,_,j.unhnd l.ok,q⟩
   |cont=>obtain⟨g,p,j,q⟩:=e;exact⟨_,_,j.unhnd l.ok,q⟩
   |ret u=>obtain⟨v,g,p,j,r,q⟩:=e;exact⟨v,_,_,j.unhnd l.ok,r,q⟩
 refine A9v J.kIn y rfl c d ?_
 exact N b w H s a t C dd D J F o
def J7e(hm:X.mg x=some (.ref R))(c:B1d X.K R)(B:X.N.Nodup)(w:X.N[i]?=some n)(y:X.env.scope.names.lookup n=some .local)(hs:∀b a,PSs (X.hnd b a) (b₀::suite) (ts a))(hr:PH X rest tr)(hg:Gl X x:=by rfl)(A:(x==("__debug__":Str))=false:=by decide)(M:X.fn n=true\/X.env.scope.names.lookup n=some .local:=by first|exact .inl rfl|exact .inr rfl|assumption):
   PH X (.ExceptHandler (some (.Name x np)) (some n) (b₀::suite) hpos::rest) (hAs X.K R i ts tr):=by
 intro b I H s a t C dd D J F h
 obtain⟨na,T,oT,W,N,xv,xw,xy,xz,xx⟩:=id F
 refine wpAny_handleBy_cons (codeAny_handlers_test ?_) (by intro z;cases z)
 have K3:Inv (X.hnd b a) [] I H s:=J.hnd
 refine A2e K3 hg hm ?_ A
 rcases h with⟨e,E⟩|⟨e,E⟩
 . refine A9v J.kIn N rfl c e ?_
   show codeAny _ _ _ _ _
   refine codeAny_handlers_suite_as ?_
   refine B3d J F fun s4 J4 F4=>?_
   obtain⟨o,T4,xu,U,e4,_⟩:=id F4
   have J5:=J4.track o e4
   refine A8t (v:= .ref a) J5 B w (.inl y) rfl (fun Z Q=>?_) M
   refine bX (hs b a [] Z _ _ _ Q.hnd (E a t T4 o.un)) (fun f L g=>?_) (fun _ _ z=>z.elim)
   have fin:∀{d:St} {m:Hp} {G:Unit ->Shared ->Prop},Inv (X.hnd b a) [] d m L ->(∀l,Inv X b (d.set i none) m l ->G () l) ->
       wpAny (model X.prog X.w) X.A (do bindName X.env n .none;unbindBehindTheSuite X.env n hpos) G X.xe L:=by
     intro d m G j k6
     have O:=j.unhnd Q.ok
     refine aE (wpAny_bindName (A8t (v:= .non) O B w (.inl y) rfl (fun l k=>?_) M))
     unfold unbindBehindTheSuite
     have p:i<d.length:=by rw[O.len];exact(bQ.mp w).1
     refine wpAny_onRaise (D7u k B w y (fZ p) fun Y P=>k6 Y ?_)
     rw[List.set_set] at P
     exact P
   cases f with
   |next=>obtain⟨d,m,j,q⟩:=g;exact fin j fun l k=>⟨_,_,k,q⟩
   |brk=>obtain⟨d,m,j,q⟩:=g;exact fin j fun l k=>⟨_,_,k,q⟩
   |cont=>obtain⟨d,m,j,q⟩:=g;exact fin j fun l k=>⟨_,_,k,q⟩
   |ret u=>obtain⟨v,d,m,j,r,q⟩:=g;exact fin j fun l k=>⟨v,_,_,k,r,q⟩
 refine A9v J.kIn N rfl c e ?_
 exact hr b I H s a t C dd D J F E
def C4h(B:U1v X)(q:∀b k d,U6 (X.hold b k) d ->PSs (X.hold b k) body (tb d))(hh:PH X (h₀::rest) tr):PS X (.Try body (h₀::rest) [] [] pos) (U6h tr tb):=by
 intro b s l H D I h
 refine wpAny_Try_except ?_
 refine bX (q b _ _ ?cat [] s l H D I.hold h) (fun f o c=>?_) (fun e o he=>he)
 case cat=>
   intro j g z p a t C dd y G r
   show wpAny (model X.prog X.w) X.A (noteFrame (.ref a) X.env) _ X.xe p
   have J:=y.unhold
   have F:=G.unhold
   exact C6j B J F fun s2 w E=>B3d w E fun m v A=>hh b g z m a t C dd D v A r
 cases f with
 |next=>exact gG (SP.unhold c)
 |brk=>exact SP.unhold c
 |cont=>exact SP.unhold c
 |ret u=>exact SP.unhold c
end
section
variable{X:Cx}
inductive U1p(x:V)(vs:List V)(H:Hp)(Q:VK):Prop
 |mk(z y)(_:x= .str z)(_:vs=[.str y])(_:(y.length==0)=false)(_:z.length+2<=sizeLine)(_:∀p,H p=none ->Q (.ref p) (upd H p (.lst ((Txt.split z y).map V.str))))
def G2m:MtR X "str.split" U1p:=by
 intro a s j H x vs v us Q I m o h
 obtain⟨z,y,rfl,rfl,g,C,q⟩:=h
 obtain⟨t,rfl⟩:=(show∃t,v=Value.str z t from m)
 obtain⟨u,rfl,w⟩:=o.one
 obtain⟨k,rfl⟩:=(show∃k,u=Value.str y k from w)
 have B:=split_le z y
 have fin:∀(l:List (Str×Tok)) (n:Nat),l.map (·.1)=Txt.split z y ->EP X a j Q (.ref s.heap.objs.size) {s with heap:=s.heap.push {cls:= .type "list",data:= .seq (strValues l).toArray},toks:=n}:=by
   intro l n i
   have r:U7 ((Txt.split z y).map V.str) (strValues l):=by
     rw[<-i]
     clear i
     induction l with
     |nil=>exact .nil
     |cons p l A=>exact .cons ⟨p.2,rfl⟩ A
   exact⟨.ref s.heap.objs.size,_,Inv.lnew (t':=n) I r (by rw[aP];lia),rfl,q _ (I.hok.fresh (aO _))⟩
 by_cases c:(decide (z.length<y.length)||decide (Builtin.Str.strKind z<Builtin.Str.strKind y))=true
 . exact jB F.slot_str_split (iG _ _ _) kA (jP _ _) (meets_str_split_cannot_occur z y t k c) (fin [(z,t)] s.toks (by unfold Txt.split;rw[aC c];rfl))
 have b:=gK.mpr c
 by_cases d:(Builtin.Str.occurrences z y 0 z.length (z.length+1)).isEmpty=true
 . exact jB F.slot_str_split (iG _ _ _) kA (jP _ _) (meets_str_split_not_found z y t k b g d) (fin [(z,t)] s.toks (by unfold Txt.split;rw[aA c,aC d];rfl))
 have f:=gK.mpr d
 have e:Txt.split z y=Builtin.Str.partsBetween z (Builtin.Str.occurrences z y 0 z.length (z.length+1)) y.length:=by unfold Txt.split;rw[aA c,aA d]
 refine jB F.slot_str_split (iG _ _ _) kA (jP _ _) (meets_str_split_sep z y t k b g f (by lia) (by rw[<-e];lia)) ?_
 have:=fin (numbered s.toks (Builtin.Str.partsBetween z (Builtin.Str.occurrences z y 0 z.length (z.length+1)) y.length)) (s.toks+(Builtin.Str.partsBetween z (Builtin.Str.occurrences z y 0 z.length (z.length+1)) y.length).length) ((numbered_texts _ _).trans e.symm)
 rw[<-strsFrom_eq] at this
 exact this
end
def gL(kvs:List (Str×Int)):List (Key×V):=kvs.map fun p=>(Sum.inr p.1,V.int p.2)
structure C7y(P:Program)(w:World)(K:Frag)(a:Addr)(kvs:List (Str×Int)):Prop where
 ns:(a==sysModules)=false
 ok:∀h:Heap,K.In h ->∃vs,KV (gL kvs) vs/\h.DictOf (B2c P w) a vs
def G0n(kvs:List (Str×Int))(z:Str):V:=match(kvs.find? fun p=>p.1=z) with
 |some p=> .int p.2
 |none=> .non
section
variable{X:Cx}{a:Addr}{kvs:List (Str×Int)}{i o:Expr}{ty td:TE}{apos cpos pos:Pos}
inductive U1r(a:Addr)(kvs:List (Str×Int))(Q:VK)(y x:V)(b:Hp):Prop
 |mk(z)(_:y= .str z)(_:x= .ref a)(_:Q (.bl (kvs.any fun p=>p.1=z)) b)
def V2n(a:Addr)(kvs:List (Str×Int))(ty td:TE):TE:=fun b H Q=>ty b H fun y d=>td b d fun x c=>U1r a kvs Q y x c
def D0w:∀(kvs:List (Str×Int)) (z:Str),C2u (gL kvs) (Sum.inr z)=(kvs.find? fun p=>p.1=z).map fun p=>V.int p.2
 | [],z=>rfl
 | p ::r,z=>by
   have b:=D0w r z
   unfold C2u gL at b ⊢
   rw[cX,fF,fF]
   dsimp only
   rw[G0j]
   by_cases h:p.1=z
   . rw[aT h]
     rfl
   . rw[aI h]
     exact b
def U7s(kvs:List (Str×Int))(z:Str):(C2u (gL kvs) (Sum.inr z)).isSome=kvs.any fun p=>p.1=z:=by
 rw[D0w,Option.isSome_map]
 induction kvs with
 |nil=>rfl
 | cons p r b=>
   rw[fF,List.any_cons]
   by_cases h:p.1=z
   . rw[aT h]
     rfl
   . rw[aI h]
     exact b
def J9c(G:C7y X.prog X.w X.K a kvs)(p:PE X i ty)(ho:PE X o td):PC X .In i o (V2n a kvs ty td):=by
 intro b s e H Q I h
 refine thn (p b s e H _ I h) fun n g ⟨y,A,v,j,m⟩=>thn (ho b g e A _ v m) fun u s2 c=>?_
 obtain⟨x,w,f,k,z,q,ex,l⟩:=c
 subst ex q
 obtain rfl:u=Value.ref a:=k
 obtain⟨t,rfl⟩:=(show∃t,n=Value.str z t from j)
 obtain⟨vs,r,d⟩:=G.ok s2.heap f.kIn
 refine wpAny_in_of (G0 _ z t) G.ns d.mapOf ?_
 rw[<-(r.val _).isSome_eq,U7s]
 exact⟨.bl _,w,f.tok _,rfl,l⟩
def U8n(a:Addr)(kvs:List (Str×Int))(td:TE)(c:TA):TE:=fun b H Q=>td b H fun x e=>x= .ref a/\c b e fun xs d=>∃z,xs=[.str z]/\Q (G0n kvs z) d
def J1p(G:C7y X.prog X.w X.K a kvs)(ho:PE X o td)(W:PA X [i] J)(k:attributeBase o "get" X.env (eval o X.env)=eval o X.env:=by rfl)(m:((backTo cpos (starEach [i] X.env)).all (fun x=> !x.1)&&(backToKw cpos (keywordEach [] X.env)).all (fun x=>x.1.isSome)
     &&decide ([i].length+([]:List Keyword).length+(if([]:List Keyword).isEmpty then 0 else 1)<30))=true:=by rfl)(g:(apos.endLine==cpos.line)=true:=by rfl)(U:starEach [i] X.env=(false,eval i X.env)::starEach [] X.env:=by rfl)(c:(backTo cpos (starEach [] X.env)).any (·.1)=false:=by rfl):
   PE X (.Call (.Attribute o "get" apos) [i] [] cpos) (U8n a kvs td J):=by
 intro f s w H Q I h
 refine wpAny_Call_method_late k m g rfl (thn (ho f s w H _ I h) fun v y j=>?_)
 obtain⟨x,H1,E,N,ex,P⟩:=j
 subst ex
 obtain rfl:v=Value.ref a:=N
 obtain⟨vs,r,d⟩:=G.ok y.heap E.kIn
 refine⟨"dict","dict.get",F.plainAttrs_dict,F.slot_dict_get,F.type_dict_get,d.typeIs,fun b e=>?_,?_⟩
 . cases e
   obtain⟨R,es,ep,e,ex,_⟩:=d
   exact⟨R,e,ex.2.1⟩
 have B:=W cpos f y w H1 _ E P
 rw[U] at B ⊢
 refine iK (by show(false||(backTo cpos (starEach [] X.env)).any (·.1))=false;rw[c]<;>rfl) (gX ?_)
 refine thn B fun us s2 j=>?_
 obtain⟨xs,H2,D,M,z,Y,O⟩:=j
 subst Y
 obtain⟨u,rfl,q⟩:=M.one
 obtain⟨t,rfl⟩:=(show∃t,u=Value.str z t from q)
 obtain⟨n,L,C⟩:=G.ok s2.heap D.kIn
 refine call_meetsIn F.slot_dict_get C.typeIs F.entry_dict_get (F.args_dict_get_2 _ _) (meets_dict_get (B2c X.prog X.w) a (G0 _ z t) G.ns) ⟨_,C.mapOf,?_⟩
 have l:=L.val (Sum.inr z)
 rw[D0w] at l
 refine⟨G0n kvs z,H2,D.tok _,?_,O⟩
 unfold G0n
 cases A:kvs.find? fun p=>p.1=z with
 | none=>
   rw[A] at l
   cases T:valueAt n (Sum.inr z:Key) with
   |none=>rfl
   |some u=>rw[T] at l;exact l.elim
 | some p=>
   rw[A] at l
   obtain⟨u,Z,q⟩:=A7y.some_of l
   rw[Z]
   exact q
end
end L2
namespace TR
open PySem L2 PySem.W PyProof.Rows
seal PE PS PSs PA PT PW PG PGs PI PO
abbrev Q0:List Str:=["context","one","other"]
abbrev Q3:List Str:=["one","other"]
abbrev Q4:List Str:=["numbers","kind"]
abbrev Q5:List Str:=["context","sign"]
abbrev Q7:List Str:=["self","sign","last","part"]
abbrev Q8:List Str:=["self","sign"]
abbrev Q9:List Str:=["context","number"]
abbrev Q10:List Str:=["context","one"]
abbrev Q11:List Str:=["context","sign","ideal"]
abbrev Q12:List Str:=["number","power"]
abbrev Q13:List Str:=["thing","least","most"]
abbrev Q14:List Str:=["context","sign","exact","ideal"]
abbrev Q15:List Str:=["context","exact"]
abbrev Q16:List Str:=["self","power"]
abbrev Q17:List Str:=["context","sign","pair"]
abbrev Q18:List Str:=["desk","words"]
abbrev Q19:List Str:=["context","sign","exact"]
abbrev Q20:List Str:=["context","name","rest"]
abbrev Q21:List Str:=["context","sign","figures","power"]
abbrev Q22:List Str:=["context","one","count"]
abbrev Q23:List Str:=["sign","figures","power"]
abbrev Q24:List Str:=["size","middle"]
abbrev Q25:List Str:=["self","names"]
abbrev Q26:List Str:=["part","is_cut"]
abbrev Q27:List Str:=["context","lead","part"]
abbrev Q28:List Str:=["thing","most"]
abbrev Q29:List Str:=["whole","count"]
abbrev Q30:List Str:=["self","top","bottom","power"]
abbrev Q31:List Str:=["ideal","sign","figures","power"]
abbrev Q32:List Str:=["self","top","power"]
abbrev Q33:List Str:=["context","one","other","ideal"]
abbrev Q34:List Str:=["context","one","goal"]
abbrev Q35:List Str:=["self","room","way","least","most"]
abbrev Q36:List Str:=["context","sign","power","count"]
abbrev Q37:List Str:=["context","sign","count"]
abbrev Q38:List Str:=["context","name","one","other"]
abbrev Q39:List Str:=["context","name","one"]
abbrev Q40:List Str:=["self","kind","sign","figures","power"]
abbrev Q41:List Str:=["self","signal"]
abbrev Q42:List Str:=["context","one","other","third"]
abbrev Q43:List Str:=["context","number","part","is_cut"]
abbrev Q44:List Str:=["context","one","power"]
abbrev Q45:List Str:=["sign","body"]
abbrev Q46:List Str:=["digits","behind"]
abbrev Q47:List Str:=["digits","lead"]
abbrev Q48:List Str:=["context","words"]
abbrev Q49:List Str:=["desk","name","rest"]
abbrev Q50:List Str:=["self","power","shift","top","bottom","whole"]
abbrev Q51:List Str:=["_law_script","_law_k"]
abbrev Q52:List Str:=["_law_cell","_law_k"]
abbrev Q53:List Str:=["number","power","size"]
abbrev Q54:List Str:=["burst","off","cut"]
abbrev Q55:List Str:=["room","way","bounds"]
abbrev Q56:List Str:=["trap","flags","clear"]
variable{P:Program}{w:World}{K:Frag}{Y:Str ->Option Value}{Z:Heap}
abbrev sr(a:Addr):Option V:=some (.ref a)
abbrev si(a:Int):Option V:=some (.int a)
abbrev sR(a:Str):Option V:=some (.str a)
abbrev sI(P:Program)(w:World)(K:Frag)(Y:Str ->Option Value)(Z:Heap):=B0 P w K Y Z (CX1 P w)
def top(i:Nat):Stmt:=PySem.Challenge.pw_tenreckon_k32_desk_played.main.body.getD i (.Pass ⟨0,0,0,0⟩)
abbrev C7a:Stmt:=(top 21)
inductive U8x(K:Frag)(vs:List V)(H:Hp)(Q:VK)(_:XK):Prop
 |mk(v lo a)(_:vs=[v,.int lo,.int a])(_:(A9d lo a v/\Q (.bl true) H)\/(B4s K H lo a v/\Q (.bl false) H))
def U7t:B9 Q13 Q13 (A5 C7a):=scK
def okZ{st:Stmt}{N ps:List Str}{k:Nat}{sp:Sp}(F:Fun K x a st f fd)(S:B9 N ps (A5 st))(c:∀b A outer s H vs (Q:VK) E,A1e k (A1m (CX1 P w) P w K Y Z N a (A5 st) f b A outer s H E).A ->U6 (A1m (CX1 P w) P w K Y Z N a (A5 st) f b A outer s H E) (fun C dd _ d=>E C dd d) ->sp vs H Q E ->
     ∃t,PSs (A1m (CX1 P w) P w K Y Z N a (A5 st) f b A outer s H E) (U4 st) t/\t {nx:=fun _ d=>Q .non d,rt:=Q} (A7w N vs) H)(len:∀vs H Q E,sp vs H Q E ->vs.length=ps.length:=by
     intro _ _ _ _ h
     repeat (obtain⟨_,h⟩:=h)
     all_goals (subst_vars;rfl)):B0 P w K Y Z (CX1 P w) (k+1) f fd ps sp:=
 F.okE S len fun X b A outer s H vs Q E i g e h=>by
   subst i
   exact c b A outer s H vs Q E g e h
def okY{st:Stmt}{N ps:List Str}{k:Nat}{sp:Sp}(F:Fun K x a st f fd)(S:B9 N ps (A5 st))(c:∀b A outer s H vs (Q:VK) E,A1e k (A.deeper (envOfC a (A5 st) s.heap.objs.size f b)) ->U6 (A1m CX0 P w K Y Z N a (A5 st) f b A outer s H E).nox EKF ->sp vs H Q E ->
     ∃t,PSs (A1m CX0 P w K Y Z N a (A5 st) f b A outer s H E).nox (U4 st) t/\t {nx:=fun _ e=>Q .non e,rt:=Q} (A7w N vs) H)(len:∀vs H Q E,sp vs H Q E ->vs.length=ps.length:=by
     intro _ _ _ _ h
     repeat (obtain⟨_,h⟩:=h)
     all_goals (subst_vars;rfl)):B0 P w K Y Z (CX1 P w) (k+1) f fd ps sp:=
 B0.up (F.ok S len fun b A outer s H vs Q E d h=>c b A outer s H vs Q E d Z1 h)
def psz{X:Cx}{pos:Pos}{i:Nat}(h:X.N.Nodup)(he:PE X e b)(f:X.N[i]?=some x:=by rfl)(c:Loc X.env.scope x:=by exact Or.inl rfl)(d:swapsWith e (some (.Name x a)) pos.line X.env=pure false:=by rfl)(g:X.fn x=true\/X.env.scope.names.lookup x=some .local:=by first|exact .inl rfl|exact .inr rfl|assumption):
   PS X (.Assign [.Name x a] e pos) (G2j b (C0u i)):=D4 h f c he d g
def D0s(D:Def K Y "is_between" Q13 C7a f fd)(O:Own Y)(T:Kit K):sI P w K Y Z 1 f fd Q13 (U8x K):=by
 refine okY D.F U7t ?_
 rintro _ _ _ _ H _ Q E g _⟨v,lo,a,rfl,h⟩
 refine⟨_,(A2 (D3 (PW.pt (B0s (A2t (V3 (C7g O.isi (pv 0) (pty O.int_ gZ)))) (A6u (V3 (C7g O.isi (pv 0) (pty O.bool_ boot_bool)))))) (A3 (A7 B0q)) C0) (A3 (A7 (A7b (V6 B1s (pv 0) (pv 1) B8) (A3y (V6 D3k (pv 0) (pv 2) B8)))))),?_⟩
 rcases h with⟨⟨i,rfl,b,e⟩,k⟩|⟨⟨t,c,b2,ty,k1,k2,bad⟩,k⟩
 . refine⟨_,_,_,_,true,rfl,rfl,G1e i,T.int_int,rfl,V4 ?_⟩
   refine⟨_,_,_,_,false,rfl,rfl,G1e i,T.int_bool,rfl,V4 ?_⟩
   refine⟨rfl,Y8 b ?_⟩
   refine ?_
   show Q (.bl (decide (i<=a))) H
   rw[aT e]
   exact k
 refine⟨_,_,_,_,c,rfl,rfl,ty,k1,rfl,?_⟩
 cases c with
 |false=>exact Y9 (Y9 k)
 | true=>
   refine V4 ⟨_,_,_,_,b2,rfl,rfl,ty,k2,rfl,?_⟩
   cases b2 with
   |true=>exact Y9 k
   | false=>
     obtain⟨i,rfl,d⟩:=bad.resolve_left (by decide)
     refine V4 ⟨rfl,G5 (fun b=>?_) (fun b=>?_)⟩
     . refine ?_
       show Q (.bl (decide (i<=a))) H
       rw[aI (by lia:¬i<=a)]
       exact k
     . exact k
structure Err(K:Frag)(mg:Str ->Option Value)(x:Str)(CB:Addr):Prop where
 g:mg x=some (.ref CB)
 q:excIn K CB [.type "ValueError",.type "Exception",.type "BaseException",.type "object"] "ValueError.__new__"=true
def B2z(lo a:Int):Prop:=lo.natAbs.log2<1920/\a.natAbs.log2<1920/\(Str.ofString (toString lo)).length<=100/\(Str.ofString (toString a)).length<=100
abbrev B2p:Stmt:=(top 66)
inductive C1q(K:Frag)(CB:Addr)(vs:List V)(H:Hp)(Q:VK)(E:XK):Prop
 |mk(v lo a)(_:vs=[v,.int lo,.int a])(_:B2z lo a)(_:(A9d lo a v/\Q v H)\/(B4s K H lo a v/\E (.ref CB) none H))
def D6k:B9 Q13 Q13 (A5 B2p):=scK
def D0j(D:Def K Y "bounded" Q13 B2p f fd)(c:Def K Y "is_between" Q13 C7a p i)(O:Own Y)(T:Kit K)(B:Err K Y "BadContext" CB):
   sI P w K Y Z 2 f fd Q13 (C1q K CB):=by
 have j:=D0s (P:=P) (w:=w) (Z:=Z) c O T
 refine okZ D.F D6k ?_
 rintro _ _ _ _ H _ Q E b a⟨v,lo,o,rfl,⟨e,d,m,l⟩,h⟩
 refine⟨_,(A2 (D3 (A2t (V3 (B7 c j b a (A0 (pv 0) (A0 (pv 1) (A0 (pv 2) A1)))))) (A3 (A0v (by rfl) B.g B.q F.excBase_ValueError b.hd a (A0 (C2a (.cons .lit (.cons (.int (pv 1)) (.cons .lit (.cons (.int (pv 2)) .nil))))) A1))) C0) (A3 (A7 (pv 0)))),?_⟩
 rcases h with⟨g,k⟩|⟨bad,k⟩
 . exact⟨_,_,_,rfl,.inl ⟨g,rfl,V4 k⟩⟩
 have s:Str.empty.length=0:=rfl
 have r:(Str.ofString "not a whole number from ").length=24:=by decide+kernel
 have q:(Str.ofString " to ").length=4:=by decide+kernel
 have sz:∀{n:Nat},n<=1000 ->n<=sizeLine:=fun h=>fk (A0u h)
 refine⟨_,_,_,rfl,.inr ⟨bad,rfl,Y9 ?_⟩⟩
 exact⟨_,rfl,sz (by rw[aK];lia),_,rfl,e,_,rfl,sz (by rw[aK,aK];lia),_,rfl,sz (by rw[aK,aK,aK];lia),_,rfl,d,_,rfl,sz (by rw[aK,aK,aK,aK];lia),sz (by rw[aK,aK,aK,aK];lia),sz (by show 1<=1000;decide),k⟩
abbrev A8e:Stmt:=(top 22)
inductive D9a(K:Frag)(CB:Addr)(vs:List V)(H:Hp)(Q:VK)(E:XK):Prop
 |mk(v lo a)(_:vs=[v,.int lo,.int a])(_:B2z lo a)(_:(A9d lo a v/\Q .non H)\/(B4s K H lo a v/\E (.ref CB) none H))
def D7w:B9 Q13 Q13 (A5 A8e):=scK
def B7j(D:Def K Y "need_between" Q13 A8e f fd)(c:Def K Y "is_between" Q13 C7a p i)(O:Own Y)(T:Kit K)(B:Err K Y "BadNumber" CB):
   sI P w K Y Z 2 f fd Q13 (D9a K CB):=by
 have j:=D0s (P:=P) (w:=w) (Z:=Z) c O T
 refine okZ D.F D7w ?_
 rintro _ _ _ _ H _ Q E b a⟨v,lo,o,rfl,⟨e,d,m,l⟩,h⟩
 refine⟨_,(A3 (D3 (A2t (V3 (B7 c j b a (A0 (pv 0) (A0 (pv 1) (A0 (pv 2) A1)))))) (A3 (A0v (by rfl) B.g B.q F.excBase_ValueError b.hd a (A0 (C2a (.cons .lit (.cons (.int (pv 1)) (.cons .lit (.cons (.int (pv 2)) .nil))))) A1))) C0)),?_⟩
 rcases h with⟨g,k⟩|⟨bad,k⟩
 . exact⟨_,_,_,rfl,.inl ⟨g,rfl,V4 k⟩⟩
 have s:Str.empty.length=0:=rfl
 have r:(Str.ofString "not a whole number from ").length=24:=by decide+kernel
 have q:(Str.ofString " to ").length=4:=by decide+kernel
 have sz:∀{n:Nat},n<=1000 ->n<=sizeLine:=fun h=>fk (A0u h)
 refine⟨_,_,_,rfl,.inr ⟨bad,rfl,Y9 ?_⟩⟩
 exact⟨_,rfl,sz (by rw[aK];lia),_,rfl,e,_,rfl,sz (by rw[aK,aK];lia),_,rfl,sz (by rw[aK,aK,aK];lia),_,rfl,d,_,rfl,sz (by rw[aK,aK,aK,aK];lia),sz (by rw[aK,aK,aK,aK];lia),sz (by show 1<=1000;decide),k⟩
abbrev C1a:Stmt:=(U2 (top 11) 0)
abbrev A3h:Stmt:=(top 16)
structure Num(K:Frag)(mg:Str ->Option Value)(CN:Addr):Prop where
 g:mg "Number"=some (.ref CN)
 cl:Cls K CN
 n1:A0e K CN "kind"
 n2:A0e K CN "sign"
 n3:A0e K CN "figures"
 n4:A0e K CN "power"
 ca:findIn K (.ref CN) "__class__"=some (some (.builtin "object.__class__"))
 sn:specialIn K (.builtin "object.__class__") "__get__"=some (some (.builtin "getset_descriptor.__get__"))
 tk:takesIn K (.builtin "object.__class__")=some true
 ob:mroIn K CN (.type "object")=some true
 self:kitOne K (.ref CN) (.ref CN)=some true
def B9u(k s f p:V):List (Str×V):=Z9 "power" p (Z9 "figures" f (Z9 "sign" s (Z9 "kind" k [])))
def e12:¬(("kind":Str)="sign"):=by decide+kernel
def e13:¬(("kind":Str)="figures"):=by decide+kernel
def e14:¬(("kind":Str)="power"):=by decide+kernel
def e23:¬(("sign":Str)="figures"):=by decide+kernel
def e24:¬(("sign":Str)="power"):=by decide+kernel
def e34:¬(("figures":Str)="power"):=by decide+kernel
def A1a(k s f p:V):(B9u k s f p).lookup ("kind":Str)=some k:=by unfold B9u;rw[U0,aA e14,U0,aA e13,U0,aA e12,U0,aC rfl]
def num2(k s f p:V):(B9u k s f p).lookup ("sign":Str)=some s:=by unfold B9u;rw[U0,aA e24,U0,aA e23,U0,aC rfl]
def A1z:(B9u k s f p).lookup ("figures":Str)=some f:=by unfold B9u;rw[U0,aA e34,U0,aC rfl]
def A0y:(B9u k s f p).lookup ("power":Str)=some p:=by unfold B9u;rw[U0,aC rfl]
def A5g(b:Addr)(H:Hp)(n:Addr)(k s f p:V):Prop:=∃a,H n=some (.ins b a (B9u k s f p))
def A5g.same(h:A5g c H n k s f p)(e:C9 H b):A5g c b n k s f p:=by
 obtain⟨a,z⟩:=h
 exact⟨a,e _ _ z⟩
def Num.ty{K:Frag}{Y:Str ->Option Value}(N:Num K Y a)(h:A5g a H n k s f p):TyE K H (.ref n) (.ref a):=by
 obtain⟨b,z⟩:=h
 exact .of (.ins z N.cl N.ca N.sn N.tk N.ob)
inductive C4n(e:Addr)(vs:List V)(H:Hp)(Q:VK)(_:XK):Prop
 |mk(p d:Addr) (k s f c:V)(_:vs=[.ref p,k,s,f,c])(_:H p=some (.ins e d []))(_:∀a,a p=some (.ins e d (B9u k s f c)) ->(∀b o,H b=some o ->b≠p ->a b=some o) ->Q .non a)
def J9r:B9 Q40 Q40 (A5 C1a):=scK
def J2k(F:Fun K "__init__" "Number.__init__" C1a f fd)(N:Num K Y q):B0 P w K Y Z CX0 1 f fd Q40 (C4n q):=by
 refine F.ok J9r (fun vs H Q E h=>?_) (fun m A outer s H vs Q E r h=>?_)
 . obtain⟨p,j,a,b,c,d,rfl,_⟩:=h
   rfl
 obtain⟨p,j,a,b,c,d,rfl,i,k⟩:=h
 refine⟨_,A2 (A0w (pv 0) (pv 1) rfl) (A2 (A0w (pv 0) (pv 2) rfl) (A2 (A0w (pv 0) (pv 3) rfl) (A3 (A0w (pv 0) (pv 4) rfl)))),?_⟩
 have l:∀(fs:List (Str×V)) (f:Str) (v:V) (n:Nat),fs.length<=n ->(Z9 f v fs).length<=n+1:=fun fs f v n h=>bS (A2q f v fs) (cY h)
 refine⟨rfl,i,N.cl,N.n1,(by show 0<1000;decide),rfl,A6,N.cl,N.n2,aW (l _ _ _ 0 (aO _)) (by decide),rfl,A6,N.cl,N.n3,aW (l _ _ _ 1 (l _ _ _ 0 (aO _))) (by decide),rfl,A6,N.cl,N.n4,aW (l _ _ _ 2 (l _ _ _ 1 (l _ _ _ 0 (aO _)))) (by decide),?_⟩
 refine k _ A6 fun b o e g=>?_
 rw[D8 g,D8 g,D8 g,D8 g]
 exact e
structure A4g(P:Program)(w:World)(K:Frag)(mg:Str ->Option Value)(base:Heap)(CN fI:Addr)(fdI:FuncData):Prop where
 m:Mk K CN fI
 g:B0 P w K mg base CX0 1 fI fdI Q40 (C4n CN)
 b:Binds K fdI Q40 []
def made{H:Hp}{Q:VK}(h:∀n c,H n=none ->C9 H c ->A5g d c n k s f p ->Q (.ref n) c):
   ∀x a,H x=none ->H a=none ->a≠x ->C4n d (.ref x::([k,s,f,p]++ [])) (upd (upd H a (.own x)) x (.ins d a [])) (fun v j=>v= .non/\Q (.ref x) j) E0:=by
 intro x a nx g l
 refine⟨x,a,k,s,f,p,rfl,A6,fun c e i=>⟨rfl,h x c nx (fun b o z=>?_) ⟨a,e⟩⟩⟩
 refine i b o ?_ (D6 z nx)
 rw[D8 (D6 z nx),D8 (D6 z g)]
 exact z
inductive A1k(K:Frag)(a:Addr)(H:Hp)(v:V):Prop
 |mk(t)(_:TyE K H v t)(_:kitOne K t (.ref a)=some false)
inductive A2w(K:Frag)(a CB:Addr)(vs:List V)(H:Hp)(Q:VK)(E:XK):Prop
 |mk(v)(_:vs=[v])(_:(∃n k s f p,v= .ref n/\A5g a H n k s f p/\Q v H)\/(A1k K a H v/\E (.ref CB) none H))
def J4b:B9 ["thing"] ["thing"] (A5 A3h):=scK
def D9y(D:Def K Y "need_number" ["thing"] A3h f fd)(O:Own Y)(T:Kit K)(B:Err K Y "BadNumber" CB)(N:Num K Y j):sI P w K Y Z 1 f fd ["thing"] (A2w K j CB):=by
 refine okZ D.F J4b ?_
 rintro _ _ _ _ H _ Q E g e⟨v,rfl,h⟩
 refine⟨_,(A2 (D3 (A2t (V3 (C7g O.isi (pv 0) (G3q N.g)))) (A3 (A0v (by rfl) B.g B.q F.excBase_ValueError g.hd e (A0 A9 A1))) C0) (A3 (A7 (pv 0)))),?_⟩
 rcases h with⟨n,a,b,c,d,rfl,i,k⟩|⟨⟨t,ty,k1⟩,k⟩
 . exact⟨_,_,_,_,true,rfl,rfl,N.ty i,N.self,rfl,V4 k⟩
 exact⟨_,_,_,t,false,rfl,rfl,ty,k1,rfl,Y9 ⟨fk (A0u (by show 1<=1000;decide)),k⟩⟩
abbrev B7h:Stmt:=(top 12)
abbrev B9v:Stmt:=(top 13)
abbrev Z2:Stmt:=(top 14)
inductive C4q(K:Frag)(b CB:Addr)(vs:List V)(H:Hp)(Q:VK)(E:XK):Prop
 |mk(x y z)(_:vs=[x,y,z])(_:(A9d 0 1 x/\A9d 0 (10^60-1) y/\A9d (-200) 200 z/\∀n a,H n=none ->C9 H a ->A5g b a n (.str "plain") x y z ->Q (.ref n) a)\/((B4s K H 0 1 x\/(A9d 0 1 x/\(B4s K H 0 (10^60-1) y\/(A9d 0 (10^60-1) y/\B4s K H (-200) 200 z))))/\E (.ref CB) none H))
def J2f:B9 Q23 Q23 (A5 B7h):=scK
def b01:B2z 0 1:=by unfold B2z;decide+kernel
def b60:B2z 0 (10^60-1):=by unfold B2z;decide+kernel
def U7j:B2z (-200) 200:=by unfold B2z;decide+kernel
def D9n(D:Def K Y "plain" Q23 B7h f fd)(g:Def K Y "need_between" Q13 A8e C t)(u:Def K Y "is_between" Q13 C7a A s)(O:Own Y)(T:Kit K)(B:Err K Y "BadNumber" CB)(N:Num K Y n)(M:A4g P w K Y Z n v r):sI P w K Y Z 3 f fd Q23 (C4q K n CB):=by
 have a:=B7j (P:=P) (w:=w) (Z:=Z) g u O T B
 refine okZ D.F J2f ?_
 rintro _ _ _ _ H _ Q E e m⟨x,y,z,rfl,h⟩
 refine⟨_,(A2 (J9 (B7 g a e m (A0 (pv 0) (A0 A4 (A0 A4 A1))))) (A2 (J9 (B7 g a e m (A0 (pv 1) (A0 A4 (A0 (D0 Y4 (D0 G0t A4 A4) A4) A1))))) (A2 (J9 (B7 g a e m (A0 (pv 2) (A0 (A5c A2k A4) (A0 A4 A1))))) (A3 (A7 (C2n M.m M.g e rfl N.g M.b .nil G4g (A0 A9 (A0 (pv 0) (A0 (pv 1) (A0 (pv 2) A1)))))))))),?_⟩
 have i:U0s 10 60:=⟨by decide,by decide,by decide⟩
 rcases h with⟨⟨d,rfl,c,b⟩,⟨l,rfl,j,u2⟩,⟨q,rfl,p,o⟩,k⟩|⟨bad,k⟩
 . refine⟨_,_,_,rfl,b01,.inl ⟨⟨d,rfl,c,b⟩,?_⟩⟩
   refine⟨i,_,_,_,rfl,b60,.inl ⟨⟨l,rfl,j,u2⟩,?_⟩⟩
   refine⟨_,_,_,rfl,U7j,.inl ⟨⟨q,rfl,p,o⟩,?_⟩⟩
   exact made k
 rcases bad with bad|⟨⟨d,rfl,c,b⟩,bad|⟨⟨l,rfl,j,u2⟩,bad⟩⟩
 . exact⟨_,_,_,rfl,b01,.inr ⟨bad,k⟩⟩
 . refine⟨_,_,_,rfl,b01,.inl ⟨⟨d,rfl,c,b⟩,?_⟩⟩
   exact⟨i,_,_,_,rfl,b60,.inr ⟨bad,k⟩⟩
 refine⟨_,_,_,rfl,b01,.inl ⟨⟨d,rfl,c,b⟩,?_⟩⟩
 refine⟨i,_,_,_,rfl,b60,.inl ⟨⟨l,rfl,j,u2⟩,?_⟩⟩
 exact⟨_,_,_,rfl,U7j,.inr ⟨bad,k⟩⟩
inductive B5m(K:Frag)(b CB:Addr)(vs:List V)(H:Hp)(Q:VK)(E:XK):Prop
 |mk(x)(_:vs=[x])(_:(A9d 0 1 x/\∀n a,H n=none ->C9 H a ->A5g b a n (.str "end") x (.int 0) (.int 0) ->Q (.ref n) a)\/(B4s K H 0 1 x/\E (.ref CB) none H))
def U5j:B9 ["sign"] ["sign"] (A5 B9v):=scK
def J8y(D:Def K Y "end" ["sign"] B9v f fd)(c:Def K Y "need_between" Q13 A8e r n)(o:Def K Y "is_between" Q13 C7a q m)(O:Own Y)(T:Kit K)(B:Err K Y "BadNumber" CB)(N:Num K Y d)(M:A4g P w K Y Z d p l):sI P w K Y Z 3 f fd ["sign"] (B5m K d CB):=by
 have a:=B7j (P:=P) (w:=w) (Z:=Z) c o O T B
 refine okZ D.F U5j ?_
 rintro _ _ _ _ H _ Q E b j⟨x,rfl,h⟩
 refine⟨_,(A2 (J9 (B7 c a b j (A0 (pv 0) (A0 A4 (A0 A4 A1))))) (A3 (A7 (C2n M.m M.g b rfl N.g M.b .nil G4g (A0 A9 (A0 (pv 0) (A0 A4 (A0 A4 A1)))))))),?_⟩
 rcases h with⟨⟨i,rfl,g,e⟩,k⟩|⟨bad,k⟩
 . refine⟨_,_,_,rfl,b01,.inl ⟨⟨i,rfl,g,e⟩,?_⟩⟩
   exact made k
 exact⟨_,_,_,rfl,b01,.inr ⟨bad,k⟩⟩
def Y7(b:Addr):Sp:=fun vs H Q _=>vs=[]/\∀n a,H n=none ->C9 H a ->A5g b a n (.str "none") (.int 0) (.int 0) (.int 0) ->Q (.ref n) a
def D5z:B9 [] [] (A5 Z2):=scK
def D1e(D:Def K Y "nothing" [] Z2 f fd)(N:Num K Y a)(M:A4g P w K Y Z a e c):sI P w K Y Z 3 f fd [] (Y7 a):=by
 refine okZ D.F D5z ?_
 rintro _ _ _ _ H _ Q E b d⟨rfl,k⟩
 refine⟨_,(A3 (A7 (C2n M.m M.g b rfl N.g M.b .nil G4g (A0 A9 (A0 A4 (A0 A4 (A0 A4 A1))))))),?_⟩
 exact made k
abbrev C0v:Stmt:=(top 15)
inductive C4x(a:Addr)(vs:List V)(H:Hp)(Q:VK)(_:XK):Prop
 |mk(n k s f p)(_:vs=[.ref n])(_:A5g a H n k s (.int f) (.int p))(_:f.natAbs<2^300)(_:Q (.int (p+((Str.ofString (toString f)).length:Nat)-1)) H)
def U1d:B9 ["number"] ["number"] (A5 C0v):=scK
def J3v(D:Def K Y "lead_of" ["number"] C0v f fd)(O:Own Y)(N:Num K Y h):sI P w K Y Z 1 f fd ["number"] (C4x h):=by
 refine okZ D.F U1d ?_
 rintro _ _ _ _ H _ Q E l j⟨n,a,b,g,i,rfl,⟨m,e⟩,d,k⟩
 refine⟨_,(A3 (A7 (D0 Y4 (D0 V8 (C7 (pv 0) rfl) (G9 A0m (by rfl) O.len_ PySem.boot_len (A0 (U8 Z6 (by rfl) O.str_ gH (A0 (C7 (pv 0) rfl) A1)) A1))) A4))),?_⟩
 have c:g.natAbs.log2<1920:=bY (Z3 d (by decide)) (by decide)
 exact⟨rfl,e,N.cl,N.n4,A0y,rfl,e,N.cl,N.n3,A1z,_,rfl,c,_,rfl,int_text_fits c,k⟩
abbrev A5f:Stmt:=(top 8)
abbrev A1w:Stmt:=(top 9)
def B2f{x k:Nat}(h:x<2^k)(b:k<=1048576):Builtin.Int.intBits (x:Int)<=2^20:=by
 unfold Builtin.Int.intBits
 split
 . exact bP _
 have z:(x:Int).natAbs≠0:=by
   intro z
   rename_i a
   exact a (by simpa using z)
 have:(x:Int).natAbs.log2<k:=(Nat.log2_lt z).mpr h
 have e:(2:Nat)^20=1048576:=by decide
 lia
def B7b{b s j n:Nat}(g:b<2^s)(f:j<=n)(e:n*s<1048576):Builtin.Int.intBits ((b^j:Nat):Int)<=2^20:=by
 refine B2f (k:=n*s+1) ?_ e
 have a:b^j<=(2^s)^j:=fj (fk g) j
 have c:(2^s)^j<=2^(n*s):=by
   rw[<-hJ,fo n s]
   exact bH (by decide) (iB s f)
 have d:2^(n*s)<2^(n*s+1):=hU (by decide) (by lia)
 exact aW a (aW c d)
def B3y{b s i j n:Nat}(c:b<2^s)(e:i<=n)(d:j<=n)(a:n*s<1048576):IntMulOk ((b^i:Nat):Int) ((b^j:Nat):Int):=fz (B7b c e a) (B7b c d a)
inductive A9g(vs:List V)(H:Hp)(Q:VK)(_:XK):Prop
 |mk(b n s:Nat)(_:vs=[.int (b:Int),.int (n:Int)])(_:b<2^s)(_:n*s<1048576)(_:Q (.int ((b^n:Nat):Int)) H)
def scProductOf:B9 ["whole","count","product"] Q29 (A5 A5f):=scK
def B1v(D:Def K Y "product_of" Q29 A5f f fd):sI P w K Y Z 1 f fd Q29 A9g:=by
 refine okY D.F scProductOf ?_
 rintro _ _ _ _ H _ Q E x _⟨b,n,z,rfl,j,g,k⟩
 refine⟨_,(A2 (psz (i:=2) scProductOf.nd A4) (A2 (B2r iE (B5 A5n (pv 1) A4 B8) (A2 (D3 (B5 D5 (D0 Y2 (pv 1) A4) A4 B8) (A3 (psz (i:=2) scProductOf.nd (D0 V5 (pv 2) (pv 0)))) C0) (A2 (psz (i:=0) scProductOf.nd (D0 V5 (pv 0) (pv 0))) (A3 (psz (i:=1) scProductOf.nd (D0 U3 (pv 1) A4)))))) (A3 (A7 (pv 2))))),?_⟩
 have o:(0:Int)<2/\(2:Int).natAbs.log2<9000:=⟨by decide,by decide+kernel⟩
 refine B3b (fun a p=>p=H/\∃i m c:Nat,m+i*c=n/\a=[si ((b^i:Nat):Int),si (c:Int),si ((b^m:Nat):Int)]) (fun a _=>match a with| [_,some (.int c),_]=>c.toNat|_=>0) ?_ ?_ ?_
 . exact⟨rfl,1,0,n,by lia,by rw[Nat.pow_one];rfl⟩
 . rintro a p ⟨rfl,i,m,c,y,rfl⟩
   refine⟨rfl,G5 (fun l=>?_) (fun l=>?_)⟩
   . have u:1<=c:=by
       have:(0:Int)<c:=l
       lia
     have d:i<=n:=bS (Nat.le_mul_of_pos_right i u) (by lia)
     have h:m<=n:=by lia
     have r:((b^i:Nat):Int)*((b^i:Nat):Int)=((b^(2*i):Nat):Int):=by rw[Nat.two_mul,cN];rfl
     have lt:((c:Int)/2).toNat<(c:Int).toNat:=by lia
     refine⟨o.1,rfl,rfl,G5 (fun ho=>?_) (fun he=>?_)⟩
     . have ho:(c:Int) % 2=1:=by injection ho
       have s:((b^m:Nat):Int)*((b^i:Nat):Int)=((b^(m+i):Nat):Int):=by rw[cN];rfl
       refine⟨B3y j h d g,B3y j d d g,o,⟨rfl,2*i,m+i,c/2,?_,?_⟩,lt⟩
       . have e:i*c=i*(2*(c/2)+1):=aM (i* ·) (by lia)
         rw[kB,Nat.mul_one, <-jC,fo i 2] at e
         lia
       . show [si (((b^i:Nat):Int)*((b^i:Nat):Int)),si ((c:Int)/2),si (((b^m:Nat):Int)*((b^i:Nat):Int))]=_
         rw[r,s]
         rfl
     . have he:¬(c:Int) % 2=1:=fun z=>he (aM V.int z)
       refine⟨B3y j d d g,o,⟨rfl,2*i,m,c/2,?_,?_⟩,lt⟩
       . have e:i*c=i*(2*(c/2)):=aM (i* ·) (by lia)
         rw[<-jC,fo i 2] at e
         lia
       . show [si (((b^i:Nat):Int)*((b^i:Nat):Int)),si ((c:Int)/2),si ((b^m:Nat):Int)]=_
         rw[r]
         rfl
   . have v:c=0:=by
       have:¬(0:Int)<c:=l
       lia
     subst v
     have h:m=n:=by lia
     subst h
     exact k
 exact fun a p B A t=>A5r fun _=>A9u fun _=>B6b fun _ ⟨e,q⟩=>⟨e,t _ _ q⟩
inductive A1s(vs:List V)(H:Hp)(Q:VK)(_:XK):Prop
 |mk(n:Nat)(_:vs=[.int (n:Int)])(_:n<=4000)(_:Q (.int ((10^n:Nat):Int)) H)
def J2d:B9 ["count"] ["count"] (A5 A1w):=scK
def G2q(D:Def K Y "ten_to" ["count"] A1w f fd)(g:Def K Y "product_of" Q29 A5f d a)(e:sI P w K Y Z 1 d a Q29 A9g):sI P w K Y Z 2 f fd ["count"] A1s:=by
 refine okY D.F J2d ?_
 rintro _ _ _ _ H _ Q E c b⟨n,rfl,h,k⟩
 exact⟨_,(A3 (A7 (B7 g e c b (A0 A4 (A0 (pv 0) A1))))),10,n,4,rfl,by decide,by lia,k⟩
inductive Kd where
 |plain|end_|none
def Kd.str:Kd ->Str
 | .plain=>"plain"
 | .end_=>"end"
 | .none=>"none"
def Kd.str_inj{a b:Kd}(h:a.str=b.str):a=b:=by
 cases a<;>cases b<;>first|rfl|exact absurd h (by decide+kernel)
structure Nm where
 k:Kd
 s:Int
 f:Int
 p:Int
structure Nm.Ok(x:Nm):Prop where
 s0:0<=x.s
 s1:x.s<=1
 f0:0<=x.f
 f1:x.f<=10^60-1
 p0: -200<=x.p
 p1:x.p<=200
def J0(a:Addr)(H:Hp)(n:Addr)(x:Nm):Prop:=A5g a H n (.str x.k.str) (.int x.s) (.int x.f) (.int x.p)
def J0.same(h:J0 b H n x)(e:C9 H a):J0 b a n x:=A5g.same h e
def J0.exc{H a:Hp}(h:J0 d H n x)(b:H D=some (.lst l))(e:D9t D H a):J0 d a n x:=by
 obtain⟨c,z⟩:=h
 exact⟨c,e _ _ z fun q=>by rw[q,b] at z;cases z⟩
def A1k.same{K:Frag}(h:A1k K b H v)(e:C9 H a):A1k K b a v:=by
 obtain⟨t,ty,r⟩:=h
 exact⟨t,TyE.same ty e,r⟩
structure C4y(CN:Addr)(H:Hp)(l:Addr)(ns:List (Addr×Nm)):Prop where
 l:H l=some (.lst (ns.map fun p=>V.ref p.1))
 n:∀p∈ns,J0 CN H p.1 p.2
def A8(n:Int):Int:=((10^n.toNat:Nat):Int)
def D7(n:Int):0<A8 n:=Int.natCast_pos.mpr (fJ (by decide))
def neS{a b:Kd}(h:¬V.str a.str=V.str b.str):a≠b:=fun q=>h (by rw[q])
def eqS{a b:Kd}(h:V.str a.str=V.str b.str):a=b:=Kd.str_inj (by injection h)
structure Nm.Bg(x:Nm):Prop where
 f0:0<=x.f
 f1:x.f<A8 120
 p0: -400<=x.p
 p1:x.p<=400
def Nm.Ok.bg{x:Nm}(h:x.Ok):x.Bg:=⟨h.f0,eF h.f1 (by decide+kernel),by have:=h.p0;lia,by have:=h.p1;lia⟩
def Nm.Bg.bits{x:Nm}(h:x.Bg):Builtin.Int.intBits x.f<=2^20:=by
 obtain⟨n,a⟩:=aV h.f0
 rw[a]
 refine B2f (k:=400) ?_ (by decide)
 have:=h.f1
 have e:A8 120=((10^120:Nat):Int):=rfl
 have:n<10^120:=by lia
 exact bY this (by decide+kernel)
abbrev A2g:Stmt:=(top 17)
abbrev A2p:Stmt:=(top 18)
abbrev A2a:Stmt:=(top 20)
inductive A2c(K:Frag)(a CB:Addr)(vs:List V)(H:Hp)(Q:VK)(E:XK):Prop
 |mk(l ns)(_:vs=[.ref l])(_:∀p∈(ns:List (Addr×Nm)),J0 a H p.1 p.2)(_:(H l=some (.lst (ns.map fun p=>V.ref p.1))/\Q .non H)\/(∃v r,H l=some (.lst ((ns.map fun p=>V.ref p.1)++v::r))/\A1k K a H v/\E (.ref CB) none H))
def scNeedNs:B9 ["things","thing"] ["things"] (A5 A2g):=scK
def D8k(D:Def K Y "need_numbers" ["things"] A2g f fd)(A:Def K Y "need_number" ["thing"] A3h y n)(z:sI P w K Y Z 1 y n ["thing"] (A2w K B CB)):sI P w K Y Z 2 f fd ["things"] (A2c K B CB):=by
 refine okZ D.F scNeedNs ?_
 rintro _ _ _ _ H _ Q E t s⟨l,ns,rfl,o,h⟩
 refine⟨_,(A3 (B7f iQ rfl (A7j (pv 0)) (A1f (i:=1) scNeedNs.nd rfl (Or.inl rfl)) (A3 (J9 (B7 A z t s (A0 (pv 1) A1)))))),?_⟩
 rcases h with⟨g,k⟩|⟨v,r,g,q,k⟩
 . refine⟨l,rfl,⟨_,SqL.of g⟩,A8h (xs:=ns.map fun p=>V.ref p.1) (fun i a b=>b=H/\∃v,a=[sr l,v]) ⟨rfl,none,rfl⟩ ?_ ?_ ?_⟩
   . rintro i a b _ ⟨rfl,_⟩
     exact SqL.of g
   . rintro i x a b c ⟨rfl,v,rfl⟩
     obtain⟨p,j,rfl⟩:=eK.mp (cF c)
     exact⟨_,rfl,.inl ⟨p.1,_,_,_,_,rfl,o p j,rfl,_,rfl⟩⟩
   . rintro a b ⟨rfl,v,rfl⟩
     exact k
 refine⟨l,rfl,⟨_,SqL.of g⟩,A8h (xs:=(ns.map fun p=>V.ref p.1)++v::r) (fun i a b=>b=H/\i<=ns.length/\∃v,a=[sr l,v]) ⟨rfl,bP _,none,rfl⟩ ?_ ?_ ?_⟩
 . rintro i a b _ ⟨rfl,_⟩
   exact SqL.of g
 . rintro i x a b c ⟨rfl,d,u,rfl⟩
   by_cases m:i<ns.length
   . rw[cH (by simpa using m)] at c
     obtain⟨p,j,rfl⟩:=eK.mp (cF c)
     exact⟨_,rfl,.inl ⟨p.1,_,_,_,_,rfl,o p j,rfl,by lia,_,rfl⟩⟩
   . have e:i=ns.length:=by lia
     subst e
     rw[cG (by simp)] at c
     simp at c
     subst c
     exact⟨_,rfl,.inr ⟨q,k⟩⟩
 rintro a b ⟨rfl,d,_⟩
 exfalso
 rw[aG,aP,bK] at d
 lia
inductive A1q(b:Addr)(vs:List V)(H:Hp)(Q:VK)(_:XK):Prop
 |mk(l ns z)(_:vs=[.ref l,.str z])(_:C4y b H l ns)(_:ns.length<=1000)(_:∀a,C9 H a ->Q (.bl (ns.any fun p=>decide (p.2.k.str=z))) a)
def J3q:B9 Q4 Q4 (A5 A2p):=scK
def J9t(ns:List (Addr×Nm))(z:Str):(ns.map fun p=>decide (p.2.k.str=z)).any id=ns.any fun p=>decide (p.2.k.str=z):=by rw[List.any_map];rfl
def dec_str:decide (V.str a=V.str b)=decide (a=b):=by
 by_cases h:a=b
 . rw[aT h,aT (aM V.str h)]
 rw[aI h,aI fun q=>h (by injection q)]
def G3c(D:Def K Y "some_of_kind" Q4 A2p f fd)(O:Own Y)(N:Num K Y A):sI P w K Y Z 1 f fd Q4 (A1q A):=by
 refine okY D.F J3q ?_
 rintro _ _ _ _ H _ Q E m _⟨l,ns,z,rfl,⟨d,r⟩,o,k⟩
 refine⟨_,(A3 (A7 (G9 (G2f m.hd) (by rfl) O.any_ boot_any (A0 (C1b (N:=["number"]) (F:=["kind"]) (js:=[1]) (U1.of1 ⟨rfl,by decide+kernel,by decide+kernel,by decide+kernel,by decide+kernel⟩ (by rfl) (by rfl) ⟨_,by rfl⟩ (by rfl) (by rfl)) (.inl m.hd) rfl (A7j (pv 0)) rfl (fun C s₀ H₀ ex pn h=>A1f (i:=0) (by decide+kernel:(["number","kind"]:List Str).Nodup) rfl (Or.inl rfl)) (fun C s₀ H₀ ex pn h=>(V6 D5 (J3a (K:=K) rfl (pv 0) rfl) (pv 1) B8))) A1)))),l,rfl,⟨_,SqL.of d⟩,B4m (J:=Itl K l) (n:=ns.length) (fun i y _=>∃p,ns[i]?=some p/\y= .bl (decide (p.2.k.str=z))) o (fun _ _ _ _ _ _ h _ _=>h) (fun i u I b a j=>⟨⟨_,V.ref ns[i].1,SqL.of (a _ _ d),by simp[b]⟩,fun x L g=>?_⟩) (fun u a=>⟨_,SqL.of (a _ _ d),by simp⟩) (fun D v ys a B eD c s=>?_)⟩
 . obtain⟨rfl,g⟩:=g
   have ex:x=V.ref ns[i].1:=by
     have:=g _ (SqL.of (a _ _ d))
     simp[b] at this
     exact this.symm
   subst ex
   obtain⟨G,e⟩:=(r _ (kC b)).same a
   refine⟨rfl,e,N.cl,N.n1,A1a _ _ _ _,rfl,j _ _ (C9.refl _) ⟨ns[i],by simp[b],?_⟩⟩
   rw[dec_str]
 have t:ys=(ns.map fun p=>decide (p.2.k.str=z)).map V.bl:=by
   apply iO
   intro i
   by_cases b:i<ns.length
   . obtain⟨p,q,j⟩:=s i ys[i] (by simp[c,b])
     rw[aY (by lia),j]
     simp[q]
   . rw[cS (by lia),cS (by simp;lia)]
 subst t
 refine⟨D,_,rfl,SqL.of eD,?_⟩
 rw[J9t]
 exact k v a
def Nm.wh(x:Nm)(q:Int):Int:=if x.s=1 then -(x.f*A8 (x.p-q)) else x.f*A8 (x.p-q)
inductive B4t(a:Addr)(vs:List V)(H:Hp)(Q:VK)(_:XK):Prop
 |mk(n x q)(_:vs=[.ref n,.int q])(_:J0 a H n x)(_:x.Bg)(_:0<=x.p-q)(_:x.p-q<=1000)(_:Q (.int (x.wh q)) H)
def scWholeAt:B9 Q53 Q12 (A5 A2a):=scK
def Nm.Ok.bits{x:Nm}(h:x.Ok):Builtin.Int.intBits x.f<=2^20:=by
 obtain⟨n,a⟩:=aV h.f0
 rw[a]
 refine B2f (k:=200) ?_ (by decide)
 have:=h.f1
 have e:((10^60:Nat):Int)=10^60:=by decide+kernel
 have:n<10^60:=by lia
 exact bY this (by decide+kernel)
def C0a{d:Int}(h:d<=4000):Builtin.Int.intBits (A8 d)<=2^20:=B7b (b:=10) (s:=4) (n:=4000) (by decide) (by lia) (by decide)
def D0t(D:Def K Y "whole_at" Q12 A2a f fd)(m:Def K Y "ten_to" ["count"] A1w j a)(l:sI P w K Y Z 2 j a ["count"] A1s)(N:Num K Y o):sI P w K Y Z 3 f fd Q12 (B4t o):=by
 refine okY D.F scWholeAt ?_
 rintro _ _ _ _ H _ Q E d c⟨n,x,q,rfl,⟨r,e⟩,ok,g,p,k⟩
 refine⟨_,(A2 (psz (i:=2) scWholeAt.nd (D0 V5 (C7 (pv 0) rfl) (B7 m l d c (A0 (D0 Y4 (C7 (pv 0) rfl) (pv 1)) A1)))) (A3 (A7 (G6 (B5 D5 (C7 (pv 0) rfl) A4 B8) (A5c A2k (pv 2)) (pv 2))))),?_⟩
 have b:IntMulOk x.f (A8 (x.p-q)):=fz ok.bits (C0a (by lia))
 refine⟨rfl,e,N.cl,N.n3,A1z,rfl,e,N.cl,N.n4,A0y,(x.p-q).toNat,(by rw[cC g];rfl),by lia,b,rfl,e,N.cl,N.n2,num2 _ _ _ _,rfl,rfl,?_⟩
 unfold Nm.wh at k
 refine G5 (fun h=>?_) (fun h=>?_)
 . rw[aC (by injection h)] at k
   exact k
 rw[aA fun q=>h (aM V.int q)] at k
 exact k
def A4e(left a:Int):Int:=(if decide (0<left)=true then 1 else 0)+(if decide (a<=2*left)=true then 1 else 0)+(if decide (a<2*left)=true then 1 else 0)
def J3n(s:Int):(if(0:Int)>s then 0 else s)=((s.toNat:Nat):Int):=by
 by_cases h:(0:Int)>s
 . rw[aC h];lia
 rw[aA h];lia
def A0c(t b s:Int):Prop:=b*A8 (-s)<=t*A8 s/\t*A8 s<10*(b*A8 (-s))
def A2j{s r:Int}(h:s<=r):A8 r*A8 (-s)=A8 s*A8 (-r)*A8 (r-s):=by
 have ad:∀{a b c:Int},0<=a ->0<=b ->c=a+b ->A8 c=A8 a*A8 b:=fun i g e=>by
   subst e
   unfold A8
   rw[Int.toNat_add i g,cN]
   exact kK _ _
 have z:∀{a:Int},a<=0 ->A8 a=1:=fun h=>by
   unfold A8
   rw[jJ h]
   rfl
 rcases Int.le_total 0 s with d|d
 . rw[z (a:= -s) (by omega),z (a:= -r) (by omega),fV,fV]
   exact ad d (by omega) (by omega)
 rcases Int.le_total 0 r with f|f
 . rw[z d,z (a:= -r) (by omega),fY,fY]
   exact(ad f (by omega) (by omega)).symm
 rw[z f,z d,fY,fY]
 exact ad (by omega) (by omega) (by omega)
def D3y{d:Int}(h:1<=d):10<=A8 d:=by
 unfold A8
 have:10^1<=10^d.toNat:=bH (by decide) (by lia)
 lia
def Z7{a b:Int}(h:a<=b):A8 a<=A8 b:=by
 unfold A8
 exact eQ.mpr (bH (by decide) (by lia))
def D2u{t b s r:Int}(j:0<b)(k:A0c t b s)(p:A0c t b r):r<=s:=by
 apply aX
 intro h
 have n:s<=r:=by lia
 have c:=A2j n
 have g:=D3y (d:=r-s) (by lia)
 have m:=D7 (-s)
 have l:=D7 (-r)
 have i:0<b*A8 (-s):=bT j m
 have f:0<b*A8 (-r):=bT j l
 have e:t*A8 r*(b*A8 (-s))=t*A8 s*(b*A8 (-r))*A8 (r-s):=by
   calc t*A8 r*(b*A8 (-s))=t*b*(A8 r*A8 (-s)):=by ac_rfl
     _=t*b*(A8 s*A8 (-r)*A8 (r-s)):=by rw[c]
     _=t*A8 s*(b*A8 (-r))*A8 (r-s):=by ac_rfl
 have a:t*A8 r*(b*A8 (-s))<10*(b*A8 (-r))*(b*A8 (-s)):=cE p.2 i
 have o:0<t*A8 s:=fA i k.1
 have x:t*A8 s*(b*A8 (-r))*10<=t*A8 s*(b*A8 (-r))*A8 (r-s):=cB g (bB (bT o f))
 have v:b*A8 (-s)*(b*A8 (-r))<=t*A8 s*(b*A8 (-r)):=bC k.1 (bB f)
 have q:10*(b*A8 (-r))*(b*A8 (-s))=b*A8 (-s)*(b*A8 (-r))*10:=by ac_rfl
 have u:b*A8 (-s)*(b*A8 (-r))*10<=t*A8 s*(b*A8 (-r))*10:=bC v (by decide)
 rw[e] at a
 rw[q] at a
 exact absurd (fA a (Int.le_trans u x)) (Int.lt_irrefl _)
def C2j{t b s r:Int}(a:0<b)(d:A0c t b s)(c:A0c t b r):s=r:=Int.le_antisymm (D2u a c d) (D2u a d c)
def Sz(t:Int):Prop:=1<=t/\t<A8 1000
def D3w(n:Nat):10^n<=2^(4*n):=by
 rw[hJ]
 exact fj (by decide) n
def C6y(n:Nat):10^(3*n)<=2^(10*n):=by
 rw[hJ,hJ]
 exact fj (by decide) n
def Sz.nat{t:Int}(h:Sz t):∃n:Nat,t=(n:Int)/\1<=n/\n<10^1000:=by
 obtain⟨n,rfl⟩:=aV (show 0<=t by have:=h.1;lia)
 exact⟨n,rfl,eQ.mp h.1,eB.mp h.2⟩
def C3p{t s:Int}(b:Sz t)(h:s<=1500):∃n:Nat,t*A8 s=(n:Int)/\n<10^2502:=by
 obtain⟨n,rfl,_,c⟩:=b.nat
 refine⟨n*10^s.toNat,rfl,?_⟩
 have a:10^s.toNat<=10^1502:=bH (by decide) (by lia)
 calc n*10^s.toNat<=n*10^1502:=iB n a
   _<10^1000*10^1502:=gO c (fJ (by decide))
   _=10^2502:=by rw[<-cN]
def C6k{n:Nat}(h:n<10^2502):Builtin.Int.intBits (n:Int)<=2^20:=B2f (k:=4*2502) (aQ h (D3w 2502)) (by decide)
def C3k{t:Int}(h:Sz t):Builtin.Int.intBits t<=2^20:=by
 obtain⟨n,rfl,_,a⟩:=h.nat
 exact B2f (k:=4*1000) (aQ a (D3w 1000)) (by decide)
def D0c{t s:Int}(a:Sz t)(h:s<=1500):IntMulOk t (A8 s):=fz (C3k a) (C0a (by lia))
def J8m{b s:Int}(c:Sz b)(h:s<=1500):(b*A8 s).natAbs.log2<9000:=by
 obtain⟨n,e,a⟩:=C3p c h
 rw[e]
 have:n<2^8340:=aQ a (C6y 834)
 exact bY (Z3 (i:=(n:Int)) (k:=8340) (by rw[eW];exact this) (by decide)) (by decide)
def whI(t b s:Int):Int:=t*A8 s/(b*A8 (-s))
def ptI(t b s:Int):Int:=A4e (t*A8 s-whI t b s*(b*A8 (-s))) (b*A8 (-s))
def J2y{t b s:Int}(d:0<b):0<=t*A8 s-whI t b s*(b*A8 (-s))/\t*A8 s-whI t b s*(b*A8 (-s))<b*A8 (-s):=by
 have l:=bT d (D7 (-s))
 have e:=Int.emod_add_mul_ediv (t*A8 s) (b*A8 (-s))
 have a:=eC (t*A8 s) (iR l)
 have c:=cQ (t*A8 s) l
 have f:whI t b s*(b*A8 (-s))=b*A8 (-s)*(t*A8 s/(b*A8 (-s))):=Int.mul_comm _ _
 lia
def U5r{t b s:Int}(a:Sz t)(f:Sz b)(i: -1500<=s)(g:s<=1500):IntMulOk (whI t b s) (b*A8 (-s)):=by
 obtain⟨n,e,c⟩:=C3p f (s:= -s) (by lia)
 obtain⟨k,h,d⟩:=C3p a g
 unfold whI
 rw[e,h]
 exact fz (C6k (aW (Nat.div_le_self k n) d)) (C6k c)
abbrev A6v:Stmt:=(U2 (top 26) 0)
structure B0j(K:Frag)(mg:Str ->Option Value)(CR CE:Addr):Prop where
 g:mg "Ratio"=some (.ref CR)
 ge:mg "Exact"=some (.ref CE)
 cl:Cls K CR
 n_top:A0e K CR "top"
 n_bottom:A0e K CR "bottom"
 n_power:A0e K CR "power"
 ca:findIn K (.ref CR) "__class__"=some (some (.builtin "object.__class__"))
 sn:specialIn K (.builtin "object.__class__") "__get__"=some (some (.builtin "getset_descriptor.__get__"))
 tk:takesIn K (.builtin "object.__class__")=some true
 ob:mroIn K CR (.type "object")=some true
 up:kitOne K (.ref CR) (.ref CE)=some true
def C2g(t b n:V):List (Str×V):=Z9 "power" n (Z9 "bottom" b (Z9 "top" t []))
def B8j(t b n:V)(x:Str):(C2g t b n).lookup x=if x="power" then some n else if x="bottom" then some b else if x="top" then some t else none:=by
 unfold C2g
 rw[U0,U0,U0]
 rfl
def D3h(t b n:V):(C2g t b n).lookup ("top":Str)=some t:=by rw[B8j,aA (by decide+kernel),aA (by decide+kernel),aC rfl]
def B7r(t b n:V):(C2g t b n).lookup ("bottom":Str)=some b:=by rw[B8j,aA (by decide+kernel),aC rfl]
def C1e(t b n:V):(C2g t b n).lookup ("power":Str)=some n:=by rw[B8j,aC rfl]
def A7h:(C2g t b n).lookup ("first":Str)=none:=by rw[B8j,aA (by decide+kernel),aA (by decide+kernel),aA (by decide+kernel)]
def A6f:(C2g t b n).lookup ("at":Str)=none:=by rw[B8j,aA (by decide+kernel),aA (by decide+kernel),aA (by decide+kernel)]
def A6m(CR:Addr)(H:Hp)(x:Addr)(t b n:Int):Prop:=∃a,H x=some (.ins CR a (C2g (.int t) (.int b) (.int n)))
def A6m.same{CR:Addr}{t b n:Int}(h:A6m CR H x t b n)(s:C9 H c):A6m CR c x t b n:=by
 obtain⟨a,e⟩:=h
 exact⟨a,s _ _ e⟩
inductive C4w(CR:Addr)(vs:List V)(H:Hp)(Q:VK)(_:XK):Prop
 |mk(p c:Addr) (t b n:V)(_:vs=[.ref p,t,b,n])(_:H p=some (.ins CR c []))(_:∀a,a p=some (.ins CR c (C2g t b n)) ->Exc p H a ->Q .non a)
def J2u:B9 Q30 Q30 (A5 A6v):=scK
def D9p{f CR CE:Addr}(F:D8y K "__init__" "Ratio.__init__" A6v t f fd)(R:B0j K Y CR CE):sI P w K Y Z 1 f fd Q30 (C4w CR):=by
 refine F.okE J2u (fun vs H Q E h=>?_) (fun X m A outer s H vs Q E i r q h=>?_)
 . obtain⟨p,j,a,b,c,rfl,_⟩:=h
   rfl
 subst i
 obtain⟨p,j,a,b,c,rfl,g,k⟩:=h
 refine⟨_,(A2 (A0w (pv 0) (pv 1) rfl) (A2 (A0w (pv 0) (pv 2) rfl) (A3 (A0w (pv 0) (pv 3) rfl)))),?_⟩
 have l:∀(fs:List (Str×V)) (f:Str) (v:V) (n:Nat),fs.length<=n ->(Z9 f v fs).length<=n+1:=fun fs f v n h=>bS (A2q f v fs) (cY h)
 refine⟨rfl,g,R.cl,R.n_top,(by show 0<1000;decide),rfl,A6,R.cl,R.n_bottom,aW (l _ _ _ 0 (aO _)) (by decide),rfl,A6,R.cl,R.n_power,aW (l _ _ _ 1 (l _ _ _ 0 (aO _))) (by decide),?_⟩
 refine k _ A6 fun b o e d=>?_
 rw[D8 d,D8 d,D8 d]
 exact e
inductive A9f(CR:Addr)(vs:List V)(H:Hp)(Q:VK)(_:XK):Prop
 |mk(x t b n)(_:vs=[.ref x])(_:A6m CR H x t b n)(_:Sz t)(_:Sz b)(_:∀f a,C9 H a ->A0c t b (n-f) ->Q (.int f) a)
inductive C1m(CR:Addr)(vs:List V)(H:Hp)(Q:VK)(_:XK):Prop
 |mk(x t b n p)(_:vs=[.ref x,.int p])(_:A6m CR H x t b n)(_:Sz t)(_:Sz b)(_: -1500<=n-p)(_:n-p<=1500)(_:∀q a,C9 H a ->H q=none ->a q=some (.tup [.int (whI t b (n-p)),.int (ptI t b (n-p))]) ->Q (.ref q) a)
structure B3n(P:Program)(w:World)(K:Frag)(mg:Str ->Option Value)(base:Heap)(CR fI:Addr)(fdI:FuncData)(d0:Value)(gP:List Value ->List Value ->List Value)(vP:List V ->List V ->List V):Prop where
 m:Mk K CR fI
 g:sI P w K mg base 1 fI fdI Q30 (C4w CR)
 b3:Binds K fdI Q30 []
 b2:Binds K fdI Q30 [d0]
 r0:Y3 (.int 0) d0
 kP:G5d K fdI Q30 ["power"] gP vP
 eP:∀x a b c,vP [x,a,b] [c]=[x,a,b,c]
structure D9c(P:Program)(w:World)(K:Frag)(mg:Str ->Option Value)(base:Heap)(CR f1 f2:Addr)(fd1 fd2:FuncData):Prop where
 m1:B3j K CR "first" f1
 g1:sI P w K mg base 4 f1 fd1 ["self"] (A9f CR)
 b1:Binds K fd1 ["self"] []
 m2:B3j K CR "at" f2
 g2:sI P w K mg base 3 f2 fd2 Q16 (C1m CR)
 b2:Binds K fd2 Q16 []
def B0p{CR x a:Addr}{H:Hp}{Q:VK}{t b n:Int}(f:H x=none)(g:H a=none)(h:a≠x)(k:∀d,C9 H d ->A6m CR d x t b n ->Q .non d):
   C4w CR [.ref x,.int t,.int b,.int n] (upd (upd H a (.own x)) x (.ins CR a [])) Q E:=
 ⟨x,a,_,_,_,rfl,A6,fun d e s=>k d (fun c o z=>s c o (by rw[D8 (D6 z f),D8 (D6 z g)];exact z) (D6 z f)) ⟨a,e⟩⟩
abbrev B3h:Stmt:=(top 28)
inductive B9a(vs:List V)(H:Hp)(Q:VK)(_:XK):Prop
 |mk(l m:Int)(_:vs=[.int (2*l),.int m])(_:0<=l)(_:0<m)(_:Q (.int (A4e l m)) H)
def G2u:B9 Q24 Q24 (A5 B3h):=scK
def J5r{m:Int}(a:0<m):A4e 0 m=0:=by
 unfold A4e
 rw[aI (by lia:¬(0:Int)<0),aI (by lia:¬m<=2*0),aI (by lia:¬m<2*0)]
 rfl
def J3p{l m:Int}(a:0<l)(h:2*l<m):A4e l m=1:=by
 unfold A4e
 rw[aT a,aI (by lia:¬m<=2*l),aI (by lia:¬m<2*l)]
 rfl
def J3z{l m:Int}(a:0<l)(h:2*l=m):A4e l m=2:=by
 unfold A4e
 rw[aT a,aT (by lia:m<=2*l),aI (by lia:¬m<2*l)]
 rfl
def J1k{l m:Int}(a:0<l)(h:m<2*l):A4e l m=3:=by
 unfold A4e
 rw[aT a,aT (by lia:m<=2*l),aT h]
 rfl
def D6z(D:Def K Y "part_of" Q24 B3h f fd):sI P w K Y Z 1 f fd Q24 B9a:=by
 refine okY D.F G2u ?_
 rintro _ _ _ _ H _ Q E h _⟨l,m,rfl,i,g,k⟩
 refine⟨_,(A2 (D3 (B5 D5 (pv 0) A4 B8) (A3 (A7 A4)) C0) (A2 (D3 (B5 B0k (pv 0) (pv 1) B8) (A3 (A7 A4)) C0) (A3 (A7 (G6 (B5 D5 (pv 0) (pv 1) B8) A4 A4))))),rfl,rfl,G5 (fun c=>?_) (fun c=>?_)⟩
 . have e:l=0:=by
     have:2*l=0:=by injection c
     lia
   subst e
   rw[J5r g] at k
   exact k
 have a:0<l:=by
   apply aX
   intro z
   exact c (by rw[show l=0 by lia];rfl)
 refine⟨rfl,G5 (fun d=>?_) (fun d=>?_)⟩
 . rw[J3p a d] at k
   exact k
 refine⟨rfl,rfl,G5 (fun b=>?_) (fun b=>?_)⟩
 . rw[J3z a (by injection b)] at k
   exact k
 rw[J1k a (by
   have:2*l≠m:=fun z=>b (by rw[z])
   lia)] at k
 exact k
abbrev B0w:Stmt:=(top 29)
def D1s(k:Nat):10^(k*301029995/10^9)<=2^k:=by
 have b:k*301029995/10^9*28738<=k*8651:=by
   have:k*301029995/10^9*10^9<=k*301029995:=Nat.div_mul_le_self _ _
   lia
 generalize k*301029995/10^9=m at b
 have c:(10:Nat)^8651<=2^28738:=by decide+kernel
 have a:(10^m)^8651<=(2^k)^8651:=by
   calc (10^m)^8651=(10^8651)^m:=by rw[<-hJ, <-hJ,fo]
     _<=(2^28738)^m:=fj c m
     _=2^(m*28738):=by rw[<-hJ,fo]
     _<=2^(k*8651):=bH (by decide) b
     _=(2^k)^8651:=by rw[<-hJ]
 exact(Nat.pow_le_pow_iff_left (by decide)).mp a
inductive B6x(vs:List V)(H:Hp)(Q:VK)(_:XK):Prop
 |mk(n:Nat)(_:vs=[.int (n:Int)])(_:1<=n)(_:n<10^3000)(_:∀L:Nat,10^L<=n ->n<10^(L+1) ->Q (.int (L:Int)) H)
def scWLead:B9 ["whole","lead","beyond"] ["whole"] (A5 B0w):=scK
def G0f(D:Def K Y "whole_lead" ["whole"] B0w f fd)(N:Def K Y "ten_to" ["count"] A1w J r)(M:sI P w K Y Z 2 J r ["count"] A1s):sI P w K Y Z 3 f fd ["whole"] B6x:=by
 refine okY D.F scWLead ?_
 rintro _ _ _ _ H _ Q E B A⟨n,rfl,R,x,k⟩
 refine⟨_,(A2 (C8 (psz (i:=1) scWLead.nd (D0 U3 (D0 V5 (D0 Y4 (C9e F.plainAttrs_int F.slot_int_bit_length F.type_int_bit_length B9y (pv 0)) A4) A4) (D0 G0t A4 A4)))) (A2 (C8 (psz (i:=2) scWLead.nd (B7 N M B A (A0 (D0 V8 (pv 1) A4) A1)))) (A2 (C8 (B2r iE (B5 D3k (pv 2) (pv 0) B8) (A2 (U0g (i:=1) scWLead.nd rfl (Or.inl rfl) A4 J9y) (A3 (psz (i:=2) scWLead.nd (D0 V5 (pv 2) A4)))))) (A3 (A7 (pv 1)))))),?_⟩
 have t:∀z n:Int, -(2^64)<n ->n<2^64 ->IntMulOk z n:=fun z n a b=>B1b.ok (.inr ⟨a,b⟩)
 have v:U0s 10 9:=⟨by decide,by decide,by decide⟩
 have y:∀{L:Nat},10^L<=n ->L<3000:=fun p=>(iC (by decide:1<10)).mp (aW p x)
 refine⟨fun d s=>s=H/\∃L:Nat,10^L<=n/\d=[si (n:Int),si (L:Int),none],?_,?_⟩
 . refine⟨rfl,_,rfl,rfl,t _ _ (by decide) (by decide),v,⟨by decide,by decide+kernel⟩,rfl,n.log2*301029995/10^9,?_,?_⟩
   . exact bS (D1s _) (Nat.log2_self_le (by lia))
   . have e:(Builtin.Int.intBits (n:Int):Nat)=n.log2+1:=by
       unfold Builtin.Int.intBits
       rw[aA (by simp;lia)]
       rfl
     show [si (n:Int),si ((((Builtin.Int.intBits (n:Int):Nat):Int)-1)*301029995/(10^Int.toNat 9:Int)),none]=_
     rw[e,show((n.log2+1:Nat):Int)-1=(n.log2:Int) by lia]
     rfl
 rintro d s ⟨rfl,u,j,rfl⟩
 refine⟨fun d m=>m=s/\∃L:Nat,10^L<=n/\d=[si (n:Int),si (L:Int),si ((10^(L+1):Nat):Int)],?_,?_⟩
 . have:=y j
   exact⟨u+1,rfl,by lia,rfl,u,j,rfl⟩
 rintro d m ⟨rfl,O,o,rfl⟩
 refine⟨fun d l=>l=m/\∃L:Nat,10^L<=n/\n<10^(L+1)/\d=[si (n:Int),si (L:Int),si ((10^(L+1):Nat):Int)],?_,?_⟩
 . refine B3b (fun d l=>l=m/\∃L:Nat,10^L<=n/\d=[si (n:Int),si (L:Int),si ((10^(L+1):Nat):Int)]) (fun d _=>match d with| [_,some (.int c),_]=>n-c.toNat|_=>0) ?_ ?_ ?_
   . exact⟨rfl,O,o,rfl⟩
   . rintro d l ⟨rfl,L,p,rfl⟩
     refine⟨rfl,G5 (fun g=>?_) (fun h=>?_)⟩
     . have g:10^(L+1)<=n:=eQ.mp g
       refine⟨_,rfl,_,_,rfl,rfl,t _ _ (by decide) (by decide),⟨rfl,L+1,g,?_⟩,?_⟩
       . show [si (n:Int),si ((L:Int)+1),si (((10^(L+1):Nat):Int)*10)]=_
         rw[show((10^(L+1):Nat):Int)*10=((10^(L+1+1):Nat):Int) by rw[eA 10 (L+1)];rfl]
         rfl
       have lt:L+1<10^(L+1):=Nat.lt_pow_self (by decide)
       show n-((L:Int)+1).toNat<n-(L:Int).toNat
       lia
     . have h:¬10^(L+1)<=n:=fun z=>h (eQ.mpr z)
       exact⟨rfl,L,p,by lia,rfl⟩
   . exact fun d m U T C=>A5r fun _=>A5r fun _=>A9u fun _=>B6b fun _ ⟨e,q⟩=>⟨e,C _ _ q⟩
 rintro d l ⟨rfl,L,I,G,rfl⟩
 exact k L I G
abbrev D4s:Stmt:=(U2 (top 26) 2)
abbrev B1y:Stmt:=(U2 (top 26) 1)
def scRAt:B9 Q50 Q16 (A5 D4s):=scK
def J9n{f A y CR CE:Addr}(F:Fun K "at" "Ratio.at" D4s f fd)(C:Def K Y "ten_to" ["count"] A1w A m)(B:sI P w K Y Z 2 A m ["count"] A1s)(L:Def K Y "part_of" Q24 B3h y l)(J:sI P w K Y Z 1 y l Q24 B9a)(R:B0j K Y CR CE)(O:Own Y):sI P w K Y Z 3 f fd Q16 (C1m CR):=by
 refine okY F scRAt ?_
 rintro _ _ _ s H _ Q E j h⟨x,t,b,n,p,rfl,⟨M,e⟩,u,d,I,v,k⟩
 refine⟨_,(A2 (psz (i:=2) scRAt.nd (D0 Y4 (C7 (pv 0) rfl) (pv 1))) (A2 (psz (i:=3) scRAt.nd (D0 V5 (C7 (pv 0) rfl) (B7 C B j h (A0 (G9 (A2r rfl) (by rfl) O.max_ jQ (A0 (pv 2) (A0 A4 A1))) A1)))) (A2 (psz (i:=4) scRAt.nd (D0 V5 (C7 (pv 0) rfl) (B7 C B j h (A0 (G9 (A2r rfl) (by rfl) O.max_ jQ (A0 (A5c A2k (pv 2)) (A0 A4 A1))) A1)))) (A2 (psz (i:=5) scRAt.nd (D0 U3 (pv 3) (pv 4))) (A3 (A7 (A0s (A0 (pv 5) (A0 (B7 L J j h (A0 (D0 V5 A4 (D0 Y4 (pv 3) (D0 V5 (pv 5) (pv 4)))) (A0 (pv 4) A1))) A1))))))))),?_⟩
 have D:2<=sizeLine:=C6 (by decide)
 have g:∀z n:Int, -(2^64)<n ->n<2^64 ->IntMulOk n z:=fun z n a b=>B1b.ok (.inl ⟨a,b⟩)
 have c:0<b:=by have:=d.1;lia
 refine⟨rfl,e,R.cl,R.n_power,C1e _ _ _,rfl,e,R.cl,R.n_top,D3h _ _ _,_,_,rfl,(n-p).toNat,aM (fun z=>[V.int z]) (J3n (n-p)),by lia,D0c u v,rfl,e,R.cl,R.n_bottom,B7r _ _ _,_,_,rfl,(-(n-p)).toNat,aM (fun z=>[V.int z]) (J3n (-(n-p))),by lia,D0c d (by lia),?_⟩
 have r:0<b*A8 (-(n-p)):=bT c (D7 _)
 have ll:(b*A8 (-(n-p))).natAbs.log2<9000:=J8m d (by lia)
 refine⟨⟨r,ll⟩,?_⟩
 have G:=J2y (t:=t) (s:=n-p) c
 refine⟨U5r u d I v,g _ _ (by decide) (by decide),_,_,rfl,G.1,r,D,fun q o=>k q _ (C9.upd o) o A6⟩
def J8r{t b L M u v:Nat}(h:L+u=M+v)(t2:t<10^(L+1))(a:10^M<=b):t*10^u<10*(b*10^v):=by
 have p:0<10^u:=fJ (by decide)
 calc t*10^u<10^(L+1)*10^u:=gO t2 p
   _=10*(10^M*10^v):=by rw[<-cN, <-cN, <-h,show L+1+u=(L+u)+1 by lia,eA,fo]
   _<=10*(b*10^v):=iB 10 (hV _ a)
def J8c{t b L M u v:Nat}(h:L+u=M+1+v)(a:10^L<=t)(b2:b<10^(M+1)):b*10^v<=t*10^u:=by
 calc b*10^v<=10^(M+1)*10^v:=hV _ (fk b2)
   _=10^L*10^u:=by rw[<-cN, <-cN,h]
   _<=t*10^u:=hV _ a
def C1d{t b L M:Nat}(c:10^L<=t)(t2:t<10^(L+1))(a:10^M<=b)(b2:b<10^(M+1))(h:(b:Int)*A8 (-((M:Int)-L))<=(t:Int)*A8 ((M:Int)-L)):A0c t b ((M:Int)-L):=by
 refine⟨h,?_⟩
 unfold A8
 have:=J8r (t:=t) (b:=b) (L:=L) (M:=M) (u:=((M:Int)-L).toNat) (v:=(-((M:Int)-L)).toNat) (by lia) t2 a
 exact eB.mpr this
def B7p{t b L M:Nat}(f:10^L<=t)(t2:t<10^(L+1))(k:10^M<=b)(b2:b<10^(M+1))(h:(t:Int)*A8 ((M:Int)-L)<(b:Int)*A8 (-((M:Int)-L))):A0c t b ((M:Int)-L+1):=by
 refine⟨?_,?_⟩
 . unfold A8
   have:=J8c (t:=t) (b:=b) (L:=L) (M:=M) (u:=((M:Int)-L+1).toNat) (v:=(-((M:Int)-L+1)).toNat) (by lia) f b2
   exact eQ.mpr this
 have d:0<(b:Int):=by
   have:0<10^M:=fJ (by decide)
   lia
 generalize (M:Int)-L=s at h
 have c:=A2j (s:=s) (r:=s+1) (by lia)
 have i:A8 (s+1-s)=10:=by rw[show s+1-s=1 by lia];rfl
 rw[i] at c
 have l:=bT d (D7 (-s))
 have g:=bT d (D7 (-(s+1)))
 have e:(t:Int)*A8 (s+1)*((b:Int)*A8 (-s))=(t:Int)*A8 s*((b:Int)*A8 (-(s+1)))*10:=by
   calc (t:Int)*A8 (s+1)*((b:Int)*A8 (-s))=t*b*(A8 (s+1)*A8 (-s)):=by ac_rfl
     _=t*b*(A8 s*A8 (-(s+1))*10):=by rw[c]
     _=(t:Int)*A8 s*((b:Int)*A8 (-(s+1)))*10:=by ac_rfl
 have a:(t:Int)*A8 s*((b:Int)*A8 (-(s+1)))<(b:Int)*A8 (-s)*((b:Int)*A8 (-(s+1))):=cE h g
 have j:(t:Int)*A8 (s+1)*((b:Int)*A8 (-s))<10*((b:Int)*A8 (-(s+1)))*((b:Int)*A8 (-s)):=by
   rw[e,show 10*((b:Int)*A8 (-(s+1)))*((b:Int)*A8 (-s))=(b:Int)*A8 (-s)*((b:Int)*A8 (-(s+1)))*10 by ac_rfl]
   exact cE a (by decide)
 exact eS j (bB l)
def scRFirst:B9 ["self","guess"] ["self"] (A5 B1y):=scK
def D8r{f O N CR CE:Addr}(F:Fun K "first" "Ratio.first" B1y f fd)(W:Def K Y "whole_lead" ["whole"] B0w O v)(U:sI P w K Y Z 3 O v ["whole"] B6x)(MA:B3j K CR "at" N)(GA:sI P w K Y Z 3 N u Q16 (C1m CR))(BA:Binds K u Q16 [])(R:B0j K Y CR CE):sI P w K Y Z 4 f fd ["self"] (A9f CR):=by
 refine okY F scRFirst ?_
 rintro _ _ _ _ H _ Q E o l⟨x,t,b,n,rfl,D,I,M,k⟩
 refine⟨_,(A2 (psz (i:=1) scRFirst.nd (D0 V8 (D0 Y4 (B7 W U o l (A0 (C7 (pv 0) rfl) A1)) (B7 W U o l (A0 (C7 (pv 0) rfl) A1))) (C7 (pv 0) rfl))) (A3 (A7 (G6 (B5 A5n (G7 A0d (A2z (pv 0) R.cl MA GA o BA .nil l (A0 (pv 1) A1)) A4 (fun _ _=>rfl)) A4 B8) (pv 1) (D0 Y4 (pv 1) A4))))),?_⟩
 obtain⟨g,rfl,ta,B⟩:=I.nat
 obtain⟨d,rfl,ba,X⟩:=M.nat
 obtain⟨dx,e⟩:=id D
 have h:(10:Nat)^1000<10^3000:=hU (by decide) (by decide)
 have c:∀{L m:Nat},10^L<=m ->m<10^1000 ->L<1000:=fun h1 h2=>(iC (by decide:1<10)).mp (aW h1 h2)
 refine⟨rfl,e,R.cl,R.n_top,D3h _ _ _,g,rfl,ta,bY B h,fun L A L2=>?_⟩
 refine⟨rfl,e,R.cl,R.n_bottom,B7r _ _ _,d,rfl,ba,bY X h,fun a y M2=>?_⟩
 have xv:=c A B
 have xu:=c y X
 refine⟨rfl,e,R.cl,R.n_power,C1e _ _ _,?_⟩
 have T:n-((L:Int)-a+n)=(a:Int)-L:=by lia
 refine⟨rfl,e,A6f,x,g,d,n,_,rfl,D,I,M,by lia,by lia,fun q H1 C nq J=>?_⟩
 rw[T] at J
 refine⟨rfl,rfl,SqT.of J,D9 (j:=0) rfl,rfl,?_⟩
 have G:0<(d:Int)*A8 (-((a:Int)-L)):=bT (by lia) (D7 _)
 refine G5 (fun s=>?_) (fun s=>?_)
 . have r:(d:Int)*A8 (-((a:Int)-L))<=(g:Int)*A8 ((a:Int)-L):=by
     have:=(iS G).mp (show(1:Int)<=(g:Int)*A8 ((a:Int)-L)/((d:Int)*A8 (-((a:Int)-L))) from s)
     lia
   refine k _ H1 C ?_
   rw[T]
   exact C1d A L2 y M2 r
 have p:(g:Int)*A8 ((a:Int)-L)<(d:Int)*A8 (-((a:Int)-L)):=by
   apply aX
   intro z
   exact s ((iS G).mpr (by lia))
 refine k _ H1 C ?_
 rw[show n-((L:Int)-a+n-1)=(a:Int)-L+1 by lia]
 exact B7p A L2 y M2 p
inductive Wy where
 |down
 |up
 |floor
 |ceiling
 |halfUp
 |halfDown
 |halfEven
 |fiveUp
def Wy.name:Wy ->Str
 | .down=>"down"
 | .up=>"up"
 | .floor=>"floor"
 | .ceiling=>"ceiling"
 | .halfUp=>"half up"
 | .halfDown=>"half down"
 | .halfEven=>"half even"
 | .fiveUp=>"five up"
def Wy.cls:Wy ->Str
 | .down=>"Down"
 | .up=>"Up"
 | .floor=>"Floor"
 | .ceiling=>"Ceiling"
 | .halfUp=>"HalfUp"
 | .halfDown=>"HalfDown"
 | .halfEven=>"HalfEven"
 | .fiveUp=>"FiveUp"
def Wy.inj{a b:Wy}(h:a.name=b.name):a=b:=by
 cases a<;>cases b<;>first|rfl|exact absurd h (by decide+kernel)
structure B5z(K:Frag)(mg:Str ->Option Value)(x:Str)(C CW:Addr):Prop where
 g:mg x=some (.ref C)
 cl:Cls K C
 mk0:Mk0 K C
 ca:findIn K (.ref C) "__class__"=some (some (.builtin "object.__class__"))
 sn:specialIn K (.builtin "object.__class__") "__get__"=some (some (.builtin "getset_descriptor.__get__"))
 tk:takesIn K (.builtin "object.__class__")=some true
 ob:mroIn K C (.type "object")=some true
 up:kitOne K (.ref C) (.ref CW)=some true
inductive A7p(s:Str)(vs:List V)(H:Hp)(Q:VK)(_:XK):Prop
 |mk(p)(_:vs=[.ref p])(_:Q (.str s) H)
def D9m(P:Program)(w:World)(K:Frag)(Y:Str ->Option Value)(Z:Heap)(C:Addr)(s:Str):Prop:=Has P w K Y Z C "name" 1 ["self"] (A7p s)
abbrev sN0:Stmt:=(U2 (top 54) 0)
def V1x:B9 ["self"] ["self"] (A5 sN0):=scK
def U7r(F:Fun K "name" "Down.name" sN0 f fd):sI P w K Y Z 1 f fd ["self"] (A7p "down"):=by
 refine okY F V1x ?_
 rintro _ _ _ _ H _ Q E a _⟨p,rfl,k⟩
 exact⟨_,A3 (A7 A9),k⟩
abbrev sN1:Stmt:=(U2 (top 55) 0)
def V1y:B9 ["self"] ["self"] (A5 sN1):=scK
def U6m(F:Fun K "name" "Up.name" sN1 f fd):sI P w K Y Z 1 f fd ["self"] (A7p "up"):=by
 refine okY F V1y ?_
 rintro _ _ _ _ H _ Q E a _⟨p,rfl,k⟩
 exact⟨_,A3 (A7 A9),k⟩
abbrev sN2:Stmt:=(U2 (top 56) 0)
def V2c:B9 ["self"] ["self"] (A5 sN2):=scK
def U7c(F:Fun K "name" "Floor.name" sN2 f fd):sI P w K Y Z 1 f fd ["self"] (A7p "floor"):=by
 refine okY F V2c ?_
 rintro _ _ _ _ H _ Q E a _⟨p,rfl,k⟩
 exact⟨_,A3 (A7 A9),k⟩
abbrev sN3:Stmt:=(U2 (top 57) 0)
def V2z:B9 ["self"] ["self"] (A5 sN3):=scK
def U6c(F:Fun K "name" "Ceiling.name" sN3 f fd):sI P w K Y Z 1 f fd ["self"] (A7p "ceiling"):=by
 refine okY F V2z ?_
 rintro _ _ _ _ H _ Q E a _⟨p,rfl,k⟩
 exact⟨_,A3 (A7 A9),k⟩
abbrev sN4:Stmt:=(U2 (top 58) 0)
def V2y:B9 ["self"] ["self"] (A5 sN4):=scK
def U5b(F:Fun K "name" "HalfUp.name" sN4 f fd):sI P w K Y Z 1 f fd ["self"] (A7p "half up"):=by
 refine okY F V2y ?_
 rintro _ _ _ _ H _ Q E a _⟨p,rfl,k⟩
 exact⟨_,A3 (A7 A9),k⟩
abbrev sN5:Stmt:=(U2 (top 59) 0)
def V3k:B9 ["self"] ["self"] (A5 sN5):=scK
def U6u(F:Fun K "name" "HalfDown.name" sN5 f fd):sI P w K Y Z 1 f fd ["self"] (A7p "half down"):=by
 refine okY F V3k ?_
 rintro _ _ _ _ H _ Q E a _⟨p,rfl,k⟩
 exact⟨_,A3 (A7 A9),k⟩
abbrev sN6:Stmt:=(U2 (top 60) 0)
def V1m:B9 ["self"] ["self"] (A5 sN6):=scK
def U5g(F:Fun K "name" "HalfEven.name" sN6 f fd):sI P w K Y Z 1 f fd ["self"] (A7p "half even"):=by
 refine okY F V1m ?_
 rintro _ _ _ _ H _ Q E a _⟨p,rfl,k⟩
 exact⟨_,A3 (A7 A9),k⟩
abbrev sN7:Stmt:=(U2 (top 61) 0)
def V2m:B9 ["self"] ["self"] (A5 sN7):=scK
def U5s(F:Fun K "name" "FiveUp.name" sN7 f fd):sI P w K Y Z 1 f fd ["self"] (A7p "five up"):=by
 refine okY F V2m ?_
 rintro _ _ _ _ H _ Q E a _⟨p,rfl,k⟩
 exact⟨_,A3 (A7 A9),k⟩
inductive J7x(K:Frag)(H:Hp)(v:V):Prop
 |mk(t b)(_:TyE K H v t)(_:kitOne K t (.type "str")=some b)(_:b=false\/∃z,v= .str z/\∀y:Wy,z≠y.name)
def A8w{H:Hp}{Q:VK}(k:∀p a b,H p=none ->C9 H b ->b p=some (.ins C a []) ->Q (.ref p) b):J9e C f H Q:=fun x a c e d=>
 k x a _ c ((C9.upd e).trans (C9.upd (by rw[D8 (eU d)];exact c))) A6
abbrev B8g:Stmt:=(top 62)
inductive C4v(K:Frag)(CB:Addr)(cw:Wy ->Addr)(vs:List V)(H:Hp)(Q:VK)(E:XK):Prop
 |mk(v)(_:vs=[v])(_:(∃y:Wy,v= .str y.name/\∀p b a,H p=none ->C9 H a ->a p=some (.ins (cw y) b []) ->Q (.ref p) a)\/(J7x K H v/\E (.ref CB) none H))
def J3w:B9 ["name"] ["name"] (A5 B8g):=scK
def G3t{cw:Wy ->Addr}(D:Def K Y "way_of" ["name"] B8g f fd)(O:Own Y)(T:Kit K)(B:Err K Y "BadContext" CB)(W:∀y:Wy,B5z K Y y.cls (cw y) CW):
   sI P w K Y Z 1 f fd ["name"] (C4v K CB cw):=by
 refine okZ D.F J3w ?_
 rintro _ _ _ _ H _ Q E r p⟨v,rfl,h⟩
 refine⟨_,(A2 (D3 (A2t (V3 (C7g O.isi (pv 0) (pty O.str_ gH)))) (A3 (A0v (by rfl) B.g B.q F.excBase_ValueError r.hd p (A0 A9 A1))) C0) (A2 (D3 (B5 D5 (pv 0) A9 B8) (A3 (A7 (A8v (W .down).mk0 rfl (W .down).g))) C0) (A2 (D3 (B5 D5 (pv 0) A9 B8) (A3 (A7 (A8v (W .up).mk0 rfl (W .up).g))) C0) (A2 (D3 (B5 D5 (pv 0) A9 B8) (A3 (A7 (A8v (W .floor).mk0 rfl (W .floor).g))) C0) (A2 (D3 (B5 D5 (pv 0) A9 B8) (A3 (A7 (A8v (W .ceiling).mk0 rfl (W .ceiling).g))) C0) (A2 (D3 (B5 D5 (pv 0) A9 B8) (A3 (A7 (A8v (W .halfUp).mk0 rfl (W .halfUp).g))) C0) (A2 (D3 (B5 D5 (pv 0) A9 B8) (A3 (A7 (A8v (W .halfDown).mk0 rfl (W .halfDown).g))) C0) (A2 (D3 (B5 D5 (pv 0) A9 B8) (A3 (A7 (A8v (W .halfEven).mk0 rfl (W .halfEven).g))) C0) (A2 (D3 (B5 D5 (pv 0) A9 B8) (A3 (A7 (A8v (W .fiveUp).mk0 rfl (W .fiveUp).g))) C0) (A3 (A0v (by rfl) B.g B.q F.excBase_ValueError r.hd p (A0 A9 A1)))))))))))),?_⟩
 have c:1<=sizeLine:=C6 (by decide)
 rcases h with⟨y,rfl,k⟩|⟨⟨t,b,ty,kk,bad⟩,k⟩
 . refine⟨_,_,_,_,true,rfl,rfl,C0m _,T.str_str,rfl,V4 ?_⟩
   refine⟨rfl,rfl,G5 (fun e=>?_) (fun o=>?_)⟩
   . have q:y= .down:=Wy.inj (V.str.inj (e:V.str y.name=V.str (Wy.name .down)))
     subst q
     exact A8w k
   refine⟨rfl,rfl,G5 (fun e=>?_) (fun n=>?_)⟩
   . have q:y= .up:=Wy.inj (V.str.inj (e:V.str y.name=V.str (Wy.name .up)))
     subst q
     exact A8w k
   refine⟨rfl,rfl,G5 (fun e=>?_) (fun m=>?_)⟩
   . have q:y= .floor:=Wy.inj (V.str.inj (e:V.str y.name=V.str (Wy.name .floor)))
     subst q
     exact A8w k
   refine⟨rfl,rfl,G5 (fun e=>?_) (fun l=>?_)⟩
   . have q:y= .ceiling:=Wy.inj (V.str.inj (e:V.str y.name=V.str (Wy.name .ceiling)))
     subst q
     exact A8w k
   refine⟨rfl,rfl,G5 (fun e=>?_) (fun j=>?_)⟩
   . have q:y= .halfUp:=Wy.inj (V.str.inj (e:V.str y.name=V.str (Wy.name .halfUp)))
     subst q
     exact A8w k
   refine⟨rfl,rfl,G5 (fun e=>?_) (fun i=>?_)⟩
   . have q:y= .halfDown:=Wy.inj (V.str.inj (e:V.str y.name=V.str (Wy.name .halfDown)))
     subst q
     exact A8w k
   refine⟨rfl,rfl,G5 (fun e=>?_) (fun g=>?_)⟩
   . have q:y= .halfEven:=Wy.inj (V.str.inj (e:V.str y.name=V.str (Wy.name .halfEven)))
     subst q
     exact A8w k
   refine⟨rfl,rfl,G5 (fun e=>?_) (fun d=>?_)⟩
   . have q:y= .fiveUp:=Wy.inj (V.str.inj (e:V.str y.name=V.str (Wy.name .fiveUp)))
     subst q
     exact A8w k
   cases y with
   |down=>exact absurd rfl o
   |up=>exact absurd rfl n
   |floor=>exact absurd rfl m
   |ceiling=>exact absurd rfl l
   |halfUp=>exact absurd rfl j
   |halfDown=>exact absurd rfl i
   |halfEven=>exact absurd rfl g
   |fiveUp=>exact absurd rfl d
 refine⟨_,_,_,_,b,rfl,rfl,ty,kk,rfl,?_⟩
 cases b with
 |false=>exact Y9 ⟨c,k⟩
 | true=>
   obtain⟨z,rfl,a⟩:=bad.resolve_left (by decide)
   refine V4 ?_
   refine⟨rfl,rfl,G5 (fun e=>absurd (V.str.inj e) (a .down)) (fun o=>?_)⟩
   refine⟨rfl,rfl,G5 (fun e=>absurd (V.str.inj e) (a .up)) (fun n=>?_)⟩
   refine⟨rfl,rfl,G5 (fun e=>absurd (V.str.inj e) (a .floor)) (fun m=>?_)⟩
   refine⟨rfl,rfl,G5 (fun e=>absurd (V.str.inj e) (a .ceiling)) (fun l=>?_)⟩
   refine⟨rfl,rfl,G5 (fun e=>absurd (V.str.inj e) (a .halfUp)) (fun j=>?_)⟩
   refine⟨rfl,rfl,G5 (fun e=>absurd (V.str.inj e) (a .halfDown)) (fun i=>?_)⟩
   refine⟨rfl,rfl,G5 (fun e=>absurd (V.str.inj e) (a .halfEven)) (fun g=>?_)⟩
   refine⟨rfl,rfl,G5 (fun e=>absurd (V.str.inj e) (a .fiveUp)) (fun d=>?_)⟩
   exact⟨c,k⟩
def A1d:List Str:=["void","split","burst","sunk","faint","off","cut"]
def C2d:List V:=A1d.map V.str
structure U1z(K:Frag)(mg:Str ->Option Value)(aS:Addr):Prop where
 g:mg "SIGNALS"=some (.ref aS)
 ty:∃o,K.lookup aS=some o/\o.cls= .type "tuple"
 sq:∀H,SqT K H aS C2d
abbrev B7k:Stmt:=(top 67)
inductive V3y(K:Frag)(H:Hp)(x:V):Prop
 |mk(t b)(_:TyE K H x t)(_:kitOne K t (.type "str")=some b)(_:b=false\/∃z,x= .str z/\z ∉ A1d)
def D1g(K:Frag)(H:Hp)(v:V):Prop:=(∃t,TyE K H v t/\kitOne K t (.type "list")=some false)\/(∃(p:Addr) (zs:List Str) (x:V) (r:List V),v= .ref p/\H p=some (.lst (zs.map V.str++x::r))/\(∀z∈zs,z∈A1d)/\V3y K H x)
inductive C4s(K:Frag)(CB:Addr)(vs:List V)(H:Hp)(Q:VK)(E:XK):Prop
 |mk(v)(_:vs=[v])(_:(∃(p:Addr) (zs:List Str),v= .ref p/\H p=some (.lst (zs.map V.str))/\(∀z∈zs,z∈A1d)/\Q .non H)\/(D1g K H v/\E (.ref CB) none H))
def scNeedS:B9 ["names","name"] ["names"] (A5 B7k):=scK
def G1b(D:Def K Y "need_signals" ["names"] B7k f fd)(O:Own Y)(T:Kit K)(B:Err K Y "BadContext" CB)(l:U1z K Y q):sI P w K Y Z 1 f fd ["names"] (C4s K CB):=by
 refine okZ D.F scNeedS ?_
 rintro _ _ _ _ H _ Q E u s⟨v,rfl,h⟩
 refine⟨_,(A2 (D3 (A2t (V3 (C7g O.isi (pv 0) (pty O.list_ boot_list)))) (A3 (A0v (by rfl) B.g B.q F.excBase_ValueError u.hd s (A0 A9 A1))) C0) (A3 (B7f iQ rfl (A7j (pv 0)) (A1f (i:=1) scNeedS.nd rfl (Or.inl rfl)) (A3 (D3 (PW.pt (B0s (A2t (V3 (C7g O.isi (pv 1) (pty O.str_ gH)))) (A6u (B5 B2x (pv 1) (G3q l.g) (by rfl))))) (A3 (A0v (by rfl) B.g B.q F.excBase_ValueError u.hd s (A0 A9 A1))) C0))))),?_⟩
 have m:1<=sizeLine:=C6 (by decide)
 rcases h with⟨p,zs,rfl,g,n,k⟩|⟨(⟨t,ty,kk⟩|⟨p,zs,x,r,rfl,g,n,t,b,ty,kk,bad⟩),k⟩
 . refine⟨_,_,_,_,true,rfl,rfl,G0v g,T.list_list,rfl,V4 ?_⟩
   refine⟨p,rfl,⟨_,SqL.of g⟩,A8h (xs:=zs.map V.str) (fun i a c=>c=H/\∃v,a=[sr p,v]) ⟨rfl,none,rfl⟩ ?_ ?_ ?_⟩
   . rintro i a c _ ⟨rfl,_⟩
     exact SqL.of g
   . rintro i x a c j ⟨rfl,v,rfl⟩
     obtain⟨z,d,rfl⟩:=eK.mp (cF j)
     refine⟨_,_,_,_,true,rfl,rfl,C0m _,T.str_str,rfl,V4 ?_⟩
     refine⟨q,C2d,rfl,.inr (l.sq _),rfl,A3b _,rfl,?_⟩
     have e:inV (.str z) C2d=true:=by
       show inV (.str z) (A1d.map V.str)=true
       rw[A1p]
       simpa using n z d
     rw[e]
     exact V4 ⟨rfl,_,rfl⟩
   . rintro a c ⟨rfl,v,rfl⟩
     exact k
 . exact⟨_,_,_,_,false,rfl,rfl,ty,kk,rfl,Y9 ⟨m,k⟩⟩
 refine⟨_,_,_,_,true,rfl,rfl,G0v g,T.list_list,rfl,V4 ?_⟩
 refine⟨p,rfl,⟨_,SqL.of g⟩,A8h (xs:=zs.map V.str++x::r) (fun i a c=>c=H/\i<=zs.length/\∃v,a=[sr p,v]) ⟨rfl,bP _,none,rfl⟩ ?_ ?_ ?_⟩
 . rintro i a c _ ⟨rfl,_⟩
   exact SqL.of g
 . rintro i y a c j ⟨rfl,A,v,rfl⟩
   by_cases o:i<zs.length
   . rw[cH (by simpa using o)] at j
     obtain⟨z,d,rfl⟩:=eK.mp (cF j)
     refine⟨_,_,_,_,true,rfl,rfl,C0m _,T.str_str,rfl,V4 ?_⟩
     refine⟨q,C2d,rfl,.inr (l.sq _),rfl,A3b _,rfl,?_⟩
     have e:inV (.str z) C2d=true:=by
       show inV (.str z) (A1d.map V.str)=true
       rw[A1p]
       simpa using n z d
     rw[e]
     exact V4 ⟨rfl,by lia,_,rfl⟩
   . have e:i=zs.length:=by lia
     subst e
     rw[cG (by simp)] at j
     simp at j
     subst j
     refine⟨_,_,_,_,b,rfl,rfl,ty,kk,rfl,?_⟩
     cases b with
     |false=>exact Y9 (Y9 ⟨m,k⟩)
     | true=>
       obtain⟨z,rfl,C⟩:=bad.resolve_left (by decide)
       refine V4 ⟨q,C2d,rfl,.inr (l.sq _),rfl,A3b _,rfl,?_⟩
       have e:inV (.str z) C2d=false:=by
         show inV (.str z) (A1d.map V.str)=false
         rw[A1p]
         simpa using C
       rw[e]
       exact Y9 ⟨m,k⟩
 rintro a c ⟨rfl,A,_⟩
 exfalso
 rw[aG,aP,bK] at A
 lia
abbrev B7v:Stmt:=(top 68)
def V7(zs:List Str):List Str:=A1d.filter fun z=>zs.contains z
inductive C5b(K:Frag)(vs:List V)(H:Hp)(Q:VK)(_:XK):Prop
 |mk(p:Addr) (zs:List Str)(_:vs=[.ref p])(_:SqL K H p (zs.map V.str))(_:∀l a,C9 H a ->H l=none ->a l=some (.lst ((V7 zs).map V.str)) ->Q (.ref l) a)
def J1u:B9 ["names"] ["names"] (A5 B7v):=scK
def G1t(D:Def K Y "in_order" ["names"] B7v f fd)(c:U1z K Y m):sI P w K Y Z 1 f fd ["names"] (C5b K):=by
 refine okY D.F J1u ?_
 rintro _ _ _ _ H _ Q E g _⟨p,zs,rfl,j,k⟩
 refine⟨_,(A3 (A7 (G1u (N:=["name"]) (F:=["names"]) (js:=[0]) (U1.of1 ⟨rfl,by decide+kernel,by decide+kernel,by decide+kernel,by decide+kernel⟩ (by rfl) (by rfl) ⟨_,by rfl⟩ (by rfl) (by rfl)) (.inl g.hd) rfl (J8n (G3q c.g)) rfl (fun C s₀ H₀ ex pn h=>A1f (i:=0) (by decide+kernel:(["name","names"]:List Str).Nodup) rfl (Or.inl rfl)) (fun C s₀ H₀ ex pn h=>(B5 (C8t (K:=K) rfl) (pv 0) (pv 1) (by rfl))) (fun C s₀ H₀ ex pn h=>(pv 0))))),?_⟩
 refine D9v (zs:=A1d) (f:=fun z=>zs.contains z) (σf:=[sr p]) c.sq (by decide) (fun z a l b q=>?_) (fun z a n q=>q) (fun D a b d e=>k D a b d e) rfl
 refine⟨p,_,rfl,.inl (b.seq j),rfl,A3b _,rfl,?_⟩
 show l (inV (.str z) (zs.map V.str)) a
 rw[A1p]
 exact q
structure B3p(K:Frag)(mg:Str ->Option Value)(CC:Addr):Prop where
 g:mg "Context"=some (.ref CC)
 cl:Cls K CC
 n_room:A0e K CC "room"
 n_rule:A0e K CC "rule"
 n_least:A0e K CC "least"
 n_most:A0e K CC "most"
 n_risen:A0e K CC "risen"
 n_trapped:A0e K CC "trapped"
def A3a(r s l m a b:V):List (Str×V):=Z9 "trapped" b (Z9 "risen" a (Z9 "most" m (Z9 "least" l (Z9 "rule" s (Z9 "room" r [])))))
def A3f(r s l m a b:V)(n:Str):(A3a r s l m a b).lookup n=if n="trapped" then some b else if n="risen" then some a else if n="most" then some m else if n="least" then some l else if n="rule" then some s else if n="room" then some r else none:=by
 unfold A3a
 rw[U0,U0,U0,U0,U0,U0]
 rfl
def A0f:(A3a r s l m a b).lookup ("room":Str)=some r:=by rw[A3f,aA (by decide+kernel),aA (by decide+kernel),aA (by decide+kernel),aA (by decide+kernel),aA (by decide+kernel),aC rfl]
def G1d(r s l m a b:V):(A3a r s l m a b).lookup ("rule":Str)=some s:=by rw[A3f,aA (by decide+kernel),aA (by decide+kernel),aA (by decide+kernel),aA (by decide+kernel),aC rfl]
def A6h:(A3a r s l m a b).lookup ("least":Str)=some l:=by rw[A3f,aA (by decide+kernel),aA (by decide+kernel),aA (by decide+kernel),aC rfl]
def A3w:(A3a r s l m a b).lookup ("most":Str)=some m:=by rw[A3f,aA (by decide+kernel),aA (by decide+kernel),aC rfl]
def A9n(r s l m a b:V):(A3a r s l m a b).lookup ("risen":Str)=some a:=by rw[A3f,aA (by decide+kernel),aC rfl]
def B5k(r s l m a b:V):(A3a r s l m a b).lookup ("trapped":Str)=some b:=by rw[A3f,aC rfl]
def A4u:(A3a r s l m a b).lookup ("way":Str)=none:=by rw[A3f,aA (by decide+kernel),aA (by decide+kernel),aA (by decide+kernel),aA (by decide+kernel),aA (by decide+kernel),aA (by decide+kernel)]
def A0b:(A3a r s l m a b).lookup ("lowest":Str)=none:=by rw[A3f,aA (by decide+kernel),aA (by decide+kernel),aA (by decide+kernel),aA (by decide+kernel),aA (by decide+kernel),aA (by decide+kernel)]
def A4j:(A3a r s l m a b).lookup ("flags":Str)=none:=by rw[A3f,aA (by decide+kernel),aA (by decide+kernel),aA (by decide+kernel),aA (by decide+kernel),aA (by decide+kernel),aA (by decide+kernel)]
def B2a(r s l m a b:V):(A3a r s l m a b).lookup ("clear":Str)=none:=by rw[A3f,aA (by decide+kernel),aA (by decide+kernel),aA (by decide+kernel),aA (by decide+kernel),aA (by decide+kernel),aA (by decide+kernel)]
def A3t:(A3a r s l m a b).lookup ("trap":Str)=none:=by rw[A3f,aA (by decide+kernel),aA (by decide+kernel),aA (by decide+kernel),aA (by decide+kernel),aA (by decide+kernel),aA (by decide+kernel)]
def B3g(r s l m a b:V):(A3a r s l m a b).lookup ("traps":Str)=none:=by rw[A3f,aA (by decide+kernel),aA (by decide+kernel),aA (by decide+kernel),aA (by decide+kernel),aA (by decide+kernel),aA (by decide+kernel)]
def A0t:(A3a r s l m a b).lookup ("raised":Str)=none:=by rw[A3f,aA (by decide+kernel),aA (by decide+kernel),aA (by decide+kernel),aA (by decide+kernel),aA (by decide+kernel),aA (by decide+kernel)]
structure A2s(CC:Addr)(H:Hp)(c:Addr)(r:Int)(y:Wy)(l m:Int)(a b:Addr)(xs ys:List V):Prop where
 ins:∃dx,H c=some (.ins CC dx (A3a (.int r) (.str y.name) (.int l) (.int m) (.ref a) (.ref b)))
 ha:H a=some (.lst xs)
 hb:H b=some (.lst ys)
def A2s.same{r:Int}{l m:Int}(h:A2s j H c r y l m a b xs ys)(e:C9 H i):A2s j i c r y l m a b xs ys:=by
 obtain⟨⟨g,z⟩,f,d⟩:=h
 exact⟨⟨g,e _ _ z⟩,e _ _ f,e _ _ d⟩
abbrev A0z:Stmt:=(U2 (top 65) 0)
abbrev C3j:Stmt:=(U2 (top 65) 1)
abbrev C2y:Stmt:=(U2 (top 65) 2)
abbrev B4h:Stmt:=(U2 (top 65) 3)
abbrev B3v:Stmt:=(U2 (top 65) 6)
def G3k(l:Int)(v:V):Prop:=(v= .non/\l= -60)\/(v= .int l/\ -60<=l/\l<=0)
def B8u(K:Frag)(S:Hp ->Prop)(c v2 b d:V):Prop:=(∀a,S a ->B4s K a 1 24 c)\/(A9d 1 24 c/\((∀a,S a ->J7x K a v2)\/((∃y:Wy,v2= .str y.name)/\((b≠ .non/\∀a,S a ->B4s K a (-60) 0 b)\/((∃l,G3k l b)/\∀a,S a ->B4s K a 0 60 d)))))
def B8u.mono{S b:Hp ->Prop}(e:∀a,b a ->S a)(h:B8u K S f v2 d c):B8u K b f v2 d c:=by
 rcases h with h|⟨g,h|⟨y,⟨n,h⟩|⟨l,h⟩⟩⟩
 . exact .inl fun a z=>h a (e a z)
 . exact .inr ⟨g,.inl fun a z=>h a (e a z)⟩
 . exact .inr ⟨g,.inr ⟨y,.inl ⟨n,fun a z=>h a (e a z)⟩⟩⟩
 exact .inr ⟨g,.inr ⟨y,.inr ⟨l,fun a z=>h a (e a z)⟩⟩⟩
def Exc.none{H b:Hp}(x:Exc p H b)(c:b p=some o)(n:b a=none):H a=none:=by
 cases q:H a with
 |none=>rfl
 | some u=>
   have:=x a u q (fun e=>by rw[e,c] at n;cases n)
   rw[n] at this
   cases this
inductive B0d(K:Frag)(g CB:Addr)(vs:List V)(H:Hp)(Q:VK)(E:XK):Prop
 |mk(p h f v2 e d)(_:vs=[.ref p,f,v2,e,d])(_:H p=some (.ins g h []))(_:(∃r y l m,f= .int r/\1<=r/\r<=24/\v2= .str (Wy.name y)/\G3k l e/\d= .int m/\0<=m/\m<=60/\∀a b c,Exc p H c ->H a=none ->H b=none ->A2s g c p r y l m a b [] [] ->Q .non c)\/(B8u K (Exc p H) f v2 e d/\∀c,Exc p H c ->E (.ref CB) none c))
def D5x:B9 Q35 Q35 (A5 A0z):=scK
def G3s:B2z 1 24:=by unfold B2z;decide+kernel
def D1b:B2z (-60) 0:=by unfold B2z;decide+kernel
def G2v:B2z 0 60:=by unfold B2z;decide+kernel
def C9r{cw:Wy ->Addr}(F:D8y K "__init__" "Context.__init__" A0z dV f fd)(dA:Def K Y "bounded" Q13 B2p fB xx)(dC:Def K Y "way_of" ["name"] B8g fW xw)(dB:sI P w K Y Z 2 fB xx Q13 (C1q K CB))(dE:sI P w K Y Z 1 fW xw ["name"] (C4v K CB cw))(C:B3p K Y j)(W:∀y:Wy,B5z K Y y.cls (cw y) CW)(N:∀y:Wy,D9m P w K Y Z (cw y) y.name):sI P w K Y Z 3 f fd Q35 (B0d K j CB):=by
 refine F.okE D5x (fun vs H Q E h=>?_) (fun X xz A outer s H vs Q E hX L J h=>?_)
 . obtain⟨p,g,v1,v2,T,v4,rfl,_⟩:=h
   rfl
 subst hX
 obtain⟨p,g,v1,v2,T,v4,rfl,hp,h⟩:=h
 obtain⟨y,hy⟩:∃y:Wy,∀z:Wy,v2= .str z.name ->z=y:=by
   by_cases q:∃z:Wy,v2= .str z.name
   . obtain⟨z,rfl⟩:=q
     exact⟨z,fun u e=>Wy.inj (V.str.inj e.symm)⟩
   . exact⟨.down,fun z e=>absurd ⟨z,e⟩ q⟩
 obtain⟨fN,xy,mN,gN,bN⟩:=N y
 refine⟨_,(A2 (A0w (pv 0) (B7 dA dB L J (A0 (pv 1) (A0 A4 (A0 A4 A1)))) rfl) (A2 (A0w (pv 0) (Y6 (B7 dC dE L J (A0 (pv 2) A1)) (W y).cl mN gN L bN .nil J) rfl) (A2 (C8 (A0w (pv 0) (G6 (B5 B4k (pv 3) A8d B8) (A5c A2k A4) (B7 dA dB L J (A0 (pv 3) (A0 (A5c A2k A4) (A0 A4 A1))))) rfl)) (A2 (A0w (pv 0) (B7 dA dB L J (A0 (pv 4) (A0 A4 (A0 A4 A1)))) rfl) (A2 (A0w (pv 0) (G8 A1) rfl) (A3 (A0w (pv 0) (G8 A1) rfl))))))),?_⟩
 have c:∀(fs:List (Str×V)) (f:Str) (v:V) (n:Nat),fs.length<=n ->(Z9 f v fs).length<=n+1:=fun fs f v n h=>bS (A2q f v fs) (cY h)
 have i:(([]:List (Str×V))).length<=0:=aO _
 have z0:0<=sizeLine:=bP _
 rcases h with⟨r,t,l,m,rfl,r1,U,rfl,hl,rfl,m1,m2,k⟩|⟨bad,k⟩
 . obtain rfl:=hy _ rfl
   refine⟨_,_,_,rfl,G3s,.inl ⟨⟨r,rfl,r1,U⟩,?_⟩⟩
   refine⟨rfl,hp,C.cl,C.n_room,by show 0<1000;decide,_,rfl,.inl ⟨_,rfl,fun q dq H2 nq s2 eq=>⟨rfl,eq,rfl,_,rfl,?_⟩⟩⟩
   have B:=s2 _ _ (A6 (H:=H) (a:=p) (o:= .ins j g (Z9 "room" (.int r) [])))
   have x:Exc p H H2:=(Exc.upd (H:=H) (o:= .ins j g (Z9 "room" (.int r) []))).trans (.of s2)
   refine⟨rfl,B,C.cl,C.n_rule,aW (c _ _ _ 0 i) (by decide),fun d O=>d=[sr p,si r,sR t.name,some T,si m]/\Exc p H O/\O p=some (.ins j g (Z9 "least" (.int l) (Z9 "rule" (.str t.name) (Z9 "room" (.int r) [])))),?_,?_⟩
   . refine⟨rfl,rfl,?_⟩
     rcases hl with⟨rfl,rfl⟩|⟨rfl,l1,l2⟩
     . refine Y8 rfl ?_
       exact⟨rfl,A6,C.cl,C.n_least,aW (c _ _ _ 1 (c _ _ _ 0 i)) (by decide),rfl,(x.trans Exc.upd).trans Exc.upd,A6⟩
     . refine Y0 (by intro z;cases z) ⟨_,_,_,rfl,D1b,.inl ⟨⟨l,rfl,l1,l2⟩,?_⟩⟩
       exact⟨rfl,A6,C.cl,C.n_least,aW (c _ _ _ 1 (c _ _ _ 0 i)) (by decide),rfl,(x.trans Exc.upd).trans Exc.upd,A6⟩
   rintro d H4 ⟨rfl,M,xv⟩
   refine⟨_,_,_,rfl,G2v,.inl ⟨⟨m,rfl,m1,m2⟩,?_⟩⟩
   refine⟨rfl,xv,C.cl,C.n_most,aW (c _ _ _ 2 (c _ _ _ 1 (c _ _ _ 0 i))) (by decide),z0,fun a I=>?_⟩
   refine⟨rfl,C9.upd I _ _ A6,C.cl,C.n_risen,aW (c _ _ _ 3 (c _ _ _ 2 (c _ _ _ 1 (c _ _ _ 0 i)))) (by decide),z0,fun b D=>?_⟩
   refine⟨rfl,C9.upd D _ _ A6,C.cl,C.n_trapped,aW (c _ _ _ 4 (c _ _ _ 3 (c _ _ _ 2 (c _ _ _ 1 (c _ _ _ 0 i))))) (by decide),?_⟩
   have x5:=M.trans (Exc.upd (H:=H4) (o:= .ins j g (Z9 "most" (.int m) (Z9 "least" (.int l) (Z9 "rule" (.str t.name) (Z9 "room" (.int r) []))))))
   have G:a≠p:=fun e=>by rw[e,A6] at I;cases I
   have xu:b≠p:=fun e=>by rw[e,A6] at D;cases D
   have x6:=(x5.trans (.of (C9.upd (o:= .lst []) I))).trans (Exc.upd (o:= .ins j g (Z9 "risen" (.ref a) (Z9 "most" (.int m) (Z9 "least" (.int l) (Z9 "rule" (.str t.name) (Z9 "room" (.int r) [])))))))
   have x7:=(x6.trans (.of (C9.upd (o:= .lst []) D))).trans (Exc.upd (o:= .ins j g (A3a (.int r) (.str t.name) (.int l) (.int m) (.ref a) (.ref b))))
   refine k a b _ x7 (x5.none A6 I) (x6.none A6 D) ⟨⟨g,A6⟩,?_,?_⟩
   . rw[D8 G]
     refine C9.upd D _ _ ?_
     rw[D8 G]
     exact A6
   . rw[D8 xu]
     exact A6
 rcases bad with b1|⟨⟨r,rfl,r1,U⟩,bad⟩
 . exact⟨_,_,_,rfl,G3s,.inr ⟨b1 _ (Exc.refl p H),k _ (Exc.refl p H)⟩⟩
 refine⟨_,_,_,rfl,G3s,.inl ⟨⟨r,rfl,r1,U⟩,?_⟩⟩
 refine⟨rfl,hp,C.cl,C.n_room,by show 0<1000;decide,?_⟩
 have R:Exc p H (upd H p (.ins j g (Z9 "room" (.int r) []))):=Exc.upd
 rcases bad with b2|⟨⟨t,rfl⟩,bad⟩
 . exact⟨_,rfl,.inr ⟨b2 _ R,k _ R⟩⟩
 obtain rfl:=hy _ rfl
 refine⟨_,rfl,.inl ⟨_,rfl,fun q dq H2 nq s2 eq=>⟨rfl,eq,rfl,_,rfl,?_⟩⟩⟩
 have B:=s2 _ _ (A6 (H:=H) (a:=p) (o:= .ins j g (Z9 "room" (.int r) [])))
 have x:Exc p H H2:=R.trans (.of s2)
 refine⟨rfl,B,C.cl,C.n_rule,aW (c _ _ _ 0 i) (by decide),?_⟩
 rcases bad with⟨n3,b3⟩|⟨⟨l,hl⟩,b4⟩
 . refine⟨fun _ _=>False,?_,fun _ _ z=>z.elim⟩
   refine⟨rfl,rfl,Y0 n3 ?_⟩
   exact⟨_,_,_,rfl,D1b,.inr ⟨b3 _ (x.trans Exc.upd),k _ (x.trans Exc.upd)⟩⟩
 refine⟨fun d O=>d=[sr p,si r,sR t.name,some T,some v4]/\Exc p H O,?_,?_⟩
 . refine⟨rfl,rfl,?_⟩
   rcases hl with⟨rfl,rfl⟩|⟨rfl,l1,l2⟩
   . refine Y8 rfl ?_
     exact⟨rfl,A6,C.cl,C.n_least,aW (c _ _ _ 1 (c _ _ _ 0 i)) (by decide),rfl,(x.trans Exc.upd).trans Exc.upd⟩
   . refine Y0 (by intro z;cases z) ⟨_,_,_,rfl,D1b,.inl ⟨⟨l,rfl,l1,l2⟩,?_⟩⟩
     exact⟨rfl,A6,C.cl,C.n_least,aW (c _ _ _ 1 (c _ _ _ 0 i)) (by decide),rfl,(x.trans Exc.upd).trans Exc.upd⟩
 rintro d H4 ⟨rfl,M⟩
 exact⟨_,_,_,rfl,G2v,.inr ⟨b4 _ M,k _ M⟩⟩
inductive B9g(f:Addr)(cw:Wy ->Addr)(vs:List V)(H:Hp)(Q:VK)(_:XK):Prop
 |mk(c r y l m a b xs ys)(_:vs=[.ref c])(_:A2s f H c r y l m a b xs ys)(_:∀p e d,H p=none ->C9 H d ->d p=some (.ins (cw y) e []) ->Q (.ref p) d)
def G2h:B9 ["self"] ["self"] (A5 C3j):=scK
def D8s(F:Fun K "way" "Context.way" C3j f fd)(n:Def K Y "way_of" ["name"] B8g i d)(j:sI P w K Y Z 1 i d ["name"] (C4v K CB cw))(C:B3p K Y o):
   sI P w K Y Z 2 f fd ["self"] (B9g o cw):=by
 refine okZ F G2h ?_
 rintro _ _ _ _ H _ Q E h g⟨c,r,y,l,m,a,b,xs,ys,rfl,⟨⟨p,e⟩,_,_⟩,k⟩
 exact⟨_,(A3 (A7 (B7 n j h g (A0 (C7 (pv 0) rfl) A1)))),rfl,e,C.cl,C.n_rule,G1d _ _ _ _ _ _,_,rfl,.inl ⟨y,rfl,k⟩⟩
inductive B9d(d:Addr)(vs:List V)(H:Hp)(Q:VK)(_:XK):Prop
 |mk(c r y l m a b xs ys)(_:vs=[.ref c])(_:A2s d H c r y l m a b xs ys)(_:Q (.int (l-r+1)) H)
def G4a:B9 ["self"] ["self"] (A5 C2y):=scK
def D6y(F:Fun K "lowest" "Context.lowest" C2y f fd)(C:B3p K Y d):sI P w K Y Z 1 f fd ["self"] (B9d d):=by
 refine okY F G4a ?_
 rintro _ _ _ _ H _ Q E g _⟨c,r,y,l,m,a,b,xs,ys,rfl,⟨⟨h,e⟩,_,_⟩,k⟩
 exact⟨_,(A3 (A7 (D0 V8 (D0 Y4 (C7 (pv 0) rfl) (C7 (pv 0) rfl)) A4))),rfl,e,C.cl,C.n_least,A6h,rfl,e,C.cl,C.n_room,A0f,k⟩
inductive A3j(d:Addr)(vs:List V)(H:Hp)(Q:VK)(_:XK):Prop
 |mk(c r y l m a b xs ys)(_:vs=[.ref c])(_:A2s d H c r y l m a b xs ys)(_:∀p,H p=none ->Q (.ref p) (upd H p (.lst xs)))
def C8u:B9 ["self"] ["self"] (A5 B4h):=scK
def C7q(F:Fun K "flags" "Context.flags" B4h f fd)(C:B3p K Y g)(O:Own Y):sI P w K Y Z 1 f fd ["self"] (A3j g):=by
 refine okY F C8u ?_
 rintro _ _ _ _ H _ Q E h _⟨c,r,y,l,m,a,b,xs,ys,rfl,⟨⟨i,e⟩,d,_⟩,k⟩
 exact⟨_,(A3 (A7 (U8 A4p (by rfl) O.list_ boot_list (A0 (C7 (pv 0) rfl) A1)))),rfl,e,C.cl,C.n_risen,A9n _ _ _ _ _ _,a,xs,rfl,.inl (SqL.of d),k⟩
structure D5d(P:Program)(w:World)(K:Frag)(mg:Str ->Option Value)(base:Heap)(CC CB fI:Addr)(fdI:FuncData):Prop where
 m:Mk K CC fI
 g:sI P w K mg base 3 fI fdI Q35 (B0d K CC CB)
def A9q{H d:Hp}(c:H x=none)(f:H a=none)(g:a≠x)(e:Exc x (upd (upd H a (.own x)) x (.ins C a [])) d):C9 H d:=fun b o h=>
 e b o (by rw[D8 (D6 h c),D8 (D6 h f)];exact h) (D6 h c)
def G1y{H:Hp}{E:XK}(i:H x=none)(h:H b=none)(g:b≠x)(bad:B8u K (C9 H) f v2 d c)(k:∀a,C9 H a ->E (.ref CB) none a):
   B0d K j CB [.ref x,f,v2,d,c] (upd (upd H b (.own x)) x (.ins j b [])) Q E:=
 ⟨x,b,f,v2,d,c,rfl,A6,.inr ⟨bad.mono fun a e=>A9q i h g e,fun a e=>k a (A9q i h g e)⟩⟩
inductive A7r(d:Addr)(vs:List V)(H:Hp)(Q:VK)(_:XK):Prop
 |mk(c r y l m a b xs ys)(_:vs=[.ref c])(_:A2s d H c r y l m a b xs ys)(_:∀p,H p=none ->Q (.ref p) (upd H p (.lst ys)))
def C9j:B9 ["self"] ["self"] (A5 B3v):=scK
def C6q(F:Fun K "traps" "Context.traps" B3v f fd)(C:B3p K Y g)(O:Own Y):sI P w K Y Z 1 f fd ["self"] (A7r g):=by
 refine okY F C9j ?_
 rintro _ _ _ _ H _ Q E h _⟨c,r,y,l,m,a,b,xs,ys,rfl,⟨⟨i,e⟩,_,d⟩,k⟩
 exact⟨_,(A3 (A7 (U8 A4p (by rfl) O.list_ boot_list (A0 (C7 (pv 0) rfl) A1)))),rfl,e,C.cl,C.n_trapped,B5k _ _ _ _ _ _,b,ys,rfl,.inl (SqL.of d),k⟩
abbrev B0a:Stmt:=(U2 (top 6) 0)
def G2g:B9 Q41 Q41 (A5 B0a):=scK
def D7g(F:Fun K "__init__" "Trapped.__init__" B0a f fd)(j:D8z K a m)(g:findIn K (.ref a) "signal"=some none):B0 P w K Y Z CX0 1 f fd Q41 (C4t a "signal"):=by
 refine F.ok G2g (fun vs H Q E h=>?_) (fun i A outer s H vs Q E l h=>?_)
 . obtain⟨e,t,v,rfl,_⟩:=h
   rfl
 obtain⟨e,t,v,rfl,he,k⟩:=h
 exact⟨_,(A3 (J2g j g (pv 0) (pv 1) rfl)),e,t,rfl,he,fun d c b=>k d c b⟩
abbrev B7d:Stmt:=(U2 (top 65) 5)
abbrev B0u:Stmt:=(U2 (top 65) 7)
def B1z(r s l m a b:V):(A3a r s l m a b).length=6:=rfl
def C3s(r s l m a b v:V):Z9 "trapped" v (A3a r s l m a b)=A3a r s l m a v:=rfl
def B7x(r s l m a b v:V):Z9 "risen" v (A3a r s l m a b)=A3a r s l m v b:=rfl
def hit(ys zs:List Str):Option Str:=ys.find? fun t=>zs.contains t
inductive B9h(K:Frag)(f CB g:Addr)(vs:List V)(H:Hp)(Q:VK)(E:XK):Prop
 |mk(c r y l m a b) (xs ys:List Str) (v:V)(_:vs=[.ref c,v])(_:A2s f H c r y l m a b (xs.map V.str) (ys.map V.str))(_:xs.length+100<=1000)(_:(∃(p:Addr) (zs:List Str),v= .ref p/\H p=some (.lst (zs.map V.str))/\zs.length<=100/\(∀z∈zs,z∈A1d)/\(hit ys zs=none ->∀a' e,Exc c H e ->H a'=none ->A2s f e c r y l m a' b ((V7 (xs++zs)).map V.str) (ys.map V.str) ->Q .non e)/\(∀t,hit ys zs=some t ->∀a' d e,Exc c H e ->H a'=none ->A2s f e c r y l m a' b ((V7 (xs++zs)).map V.str) (ys.map V.str) ->H d=none ->e d=some (.xd [("signal",.str t)]) ->E (.ref g) (some d) e))\/(D1g K H v/\E (.ref CB) none H))
def scRaised:B9 ["self","names","name"] Q25 (A5 B0u):=scK
def D6f(F:Fun K "raised" "Context.raised" B0u f fd)(dA:Def K Y "need_signals" ["names"] B7k f1 xw)(dB:sI P w K Y Z 1 f1 xw ["names"] (C4s K CB))(dC:Def K Y "in_order" ["names"] B7v f2 xv)(dE:sI P w K Y Z 1 f2 xv ["names"] (C5b K))(C:B3p K Y j)(gT:Y "Trapped"=some (.ref CT))(XI:D8z K CT fX)(GX:B0 P w K Y Z CX0 1 fX xu Q41 (C4t CT "signal"))(BX:Binds K xu Q41 []):sI P w K Y Z 3 f fd Q25 (B9h K j CB CT):=by
 refine okZ F scRaised ?_
 rintro _ _ _ _ H _ Q E U T⟨c,r,y,l,m,a,b,xs,ys,v,rfl,⟨⟨n,e⟩,ha,hb⟩,lx,h⟩
 refine⟨_,(A2 (J9 (B7 dA dB U T (A0 (pv 1) A1))) (A2 (A0w (pv 0) (B7 dC dE U T (A0 (D0 A8n (C7 (pv 0) rfl) (pv 1)) A1)) rfl) (A3 (B7f iQ rfl (A7j (C7 (pv 0) rfl)) (A1f (i:=2) scRaised.nd rfl (Or.inl rfl)) (A3 (D3 (B5 A1c (pv 2) (pv 1) (by rfl)) (A3 (D8d gT XI GX BX U T (A0 (pv 2) A1))) C0)))))),?_⟩
 rcases h with⟨p,zs,rfl,I,lz,hz,k1,k2⟩|⟨bad,k⟩
 . refine⟨_,rfl,.inl ⟨p,zs,rfl,I,hz,?_⟩⟩
   refine⟨rfl,e,C.cl,C.n_risen,A9n _ _ _ _ _ _,a,p,_,_,rfl,rfl,ha,I,C6 (by rw[aP,aP];lia),fun q nq=>?_⟩
   have M:=C9.upd (o:= .lst (xs.map V.str++zs.map V.str)) nq
   refine⟨q,xs++zs,rfl,SqL.of (by rw[A6,cL]),fun a' B s1 n1 e1=>?_⟩
   have s2:=M.trans s1
   refine⟨rfl,s2 _ _ e,C.cl,C.n_risen,by rw[B1z];decide,?_⟩
   rw[B7x]
   have O:b≠c:=A2v hb e (by intro z;cases z)
   have N:p≠c:=A2v I e (by intro z;cases z)
   have R:a'≠c:=A2v e1 (s2 _ _ e) (by intro z;cases z)
   have G:Exc c H (upd B c (.ins j n (A3a (.int r) (.str y.name) (.int l) (.int m) (.ref a') (.ref b)))):=(Exc.of s2).trans Exc.upd
   have g:(upd B c (.ins j n (A3a (.int r) (.str y.name) (.int l) (.int m) (.ref a') (.ref b)))) b=some (.lst (ys.map V.str)):=by rw[D8 O];exact s2 _ _ hb
   have A:(upd B c (.ins j n (A3a (.int r) (.str y.name) (.int l) (.int m) (.ref a') (.ref b)))) p=some (.lst (zs.map V.str)):=by rw[D8 N];exact s2 _ _ I
   have ct:A2s j (upd B c (.ins j n (A3a (.int r) (.str y.name) (.int l) (.int m) (.ref a') (.ref b)))) c r y l m a' b ((V7 (xs++zs)).map V.str) (ys.map V.str):=⟨⟨n,A6⟩,by rw[D8 R];exact e1,g⟩
   refine⟨rfl,A6,C.cl,C.n_trapped,B5k _ _ _ _ _ _,b,rfl,⟨_,SqL.of g⟩,?_⟩
   generalize upd B c (.ins j n (A3a (.int r) (.str y.name) (.int l) (.int m) (.ref a') (.ref b)))=H3 at G g A ct ⊢
   refine A8h (xs:=ys.map V.str) (fun i D L=>L=H3/\(∀t∈ys.take i,zs.contains t=false)/\∃v,D=[sr c,sr p,v]) ⟨rfl,by simp,none,rfl⟩ ?_ ?_ ?_
   . rintro i D L _ ⟨rfl,_⟩
     exact SqL.of g
   . rintro i x D L hi ⟨rfl,u,v,rfl⟩
     rw[eX] at hi
     obtain⟨t,s,rfl⟩:=iT.mp hi
     refine⟨p,_,rfl,.inl (SqL.of A),rfl,A3b _,rfl,?_⟩
     have W:i<ys.length:=(bQ.mp s).1
     have et:ys.take (i+1)=ys.take i++ [t]:=by
       rw[iN W,(bQ.mp s).2]
     cases J:zs.contains t with
     | false=>
       rw[show(if false=true then !inV (V.str t) (zs.map V.str) else inV (V.str t) (zs.map V.str))=false by rw[aA aB,A1p,J]]
       refine V4 ⟨rfl,fun t' h'=>?_,_,rfl⟩
       rw[et] at h'
       rcases bO.mp h' with h'|h'
       . exact u t' h'
       . rw[bE.mp h'];exact J
     | true=>
       rw[show(if false=true then !inV (V.str t) (zs.map V.str) else inV (V.str t) (zs.map V.str))=true by rw[aA aB,A1p,J]]
       obtain⟨xx,X⟩:=ct.ins
       refine Y9 ⟨_,rfl,fun d H4 s4 nd e4=>?_⟩
       refine k2 t ?_ a' d H4 (G.trans (.of s4)) ((M.free n1)) (ct.same s4) (G.none X nd) e4
       unfold hit
       rw[List.find?_eq_some_iff_append]
       refine⟨J,ys.take i,ys.drop (i+1),?_,fun t' h'=>by rw[u t' h'];rfl⟩
       have:=iY (i+1) ys
       rw[et] at this
       rw[gQ] at this
       exact this.symm
   . rintro D L ⟨rfl,u,v,rfl⟩
     refine k1 ?_ a' _ G (M.free n1) ct
     unfold hit
     rw[jR]
     rw[aP,eV] at u
     intro t hm
     rw[u t hm]
     exact aB
 exact⟨_,rfl,.inr ⟨bad,k⟩⟩
inductive B4u(K:Frag)(e CB:Addr)(vs:List V)(H:Hp)(Q:VK)(E:XK):Prop
 |mk(c r y l m a b xs ys v)(_:vs=[.ref c,v])(_:A2s e H c r y l m a b xs ys)(_:(∃(p:Addr) (zs:List Str),v= .ref p/\H p=some (.lst (zs.map V.str))/\(∀z∈zs,z∈A1d)/\∀b' d,Exc c H d ->H b'=none ->A2s e d c r y l m a b' xs ((V7 zs).map V.str) ->Q .non d)\/(D1g K H v/\E (.ref CB) none H))
def J9p:B9 Q25 Q25 (A5 B7d):=scK
def J1q(F:Fun K "trap" "Context.trap" B7d f fd)(M:Def K Y "need_signals" ["names"] B7k D n)(L:sI P w K Y Z 1 D n ["names"] (C4s K CB))(J:Def K Y "in_order" ["names"] B7v B j)(I:sI P w K Y Z 1 B j ["names"] (C5b K))(C:B3p K Y N):sI P w K Y Z 2 f fd Q25 (B4u K N CB):=by
 refine okZ F J9p ?_
 rintro _ _ _ _ H _ Q E q o⟨c,r,y,l,m,a,b,xs,ys,v,rfl,⟨⟨G,e⟩,t,O⟩,h⟩
 refine⟨_,(A2 (J9 (B7 M L q o (A0 (pv 1) A1))) (A3 (A0w (pv 0) (B7 J I q o (A0 (pv 1) A1)) rfl))),?_⟩
 rcases h with⟨p,zs,rfl,s,A,k⟩|⟨bad,k⟩
 . refine⟨_,rfl,.inl ⟨p,zs,rfl,s,A,?_⟩⟩
   refine⟨p,zs,rfl,SqL.of s,fun b' R d x u=>?_⟩
   refine⟨rfl,d _ _ e,C.cl,C.n_trapped,by rw[B1z];decide,?_⟩
   rw[C3s]
   have i:a≠c:=A2v t e (by intro z;cases z)
   have g:b'≠c:=A2v u (d _ _ e) (by intro z;cases z)
   exact k b' _ ((Exc.of d).trans Exc.upd) x ⟨⟨G,A6⟩,by rw[D8 i];exact d _ _ t,by rw[D8 g];exact u⟩
 exact⟨_,rfl,.inr ⟨bad,k⟩⟩
abbrev B4c:Stmt:=(U2 (top 65) 4)
inductive A7n(e:Addr)(vs:List V)(H:Hp)(Q:VK)(_:XK):Prop
 |mk(c r y l m a b xs ys)(_:vs=[.ref c])(_:A2s e H c r y l m a b xs ys)(_:∀a' d,Exc c H d ->H a'=none ->A2s e d c r y l m a' b [] ys ->Q .non d)
def C9a:B9 ["self"] ["self"] (A5 B4c):=scK
def C6v(F:Fun K "clear" "Context.clear" B4c f fd)(C:B3p K Y n):sI P w K Y Z 1 f fd ["self"] (A7n n):=by
 refine okY F C9a ?_
 rintro _ _ _ _ H _ Q E q _⟨c,r,y,l,m,a,b,xs,ys,rfl,⟨⟨j,e⟩,s,i⟩,k⟩
 refine⟨_,(A3 (A0w (pv 0) (G8 A1) rfl)),bP _,fun p d=>?_⟩
 have u:=C9.upd (o:= .lst []) d
 refine⟨rfl,u _ _ e,C.cl,C.n_risen,by rw[B1z];decide,?_⟩
 rw[B7x]
 have h:p≠c:=eU (D6 e d)
 have g:b≠c:=A2v i e (by intro z;cases z)
 exact k p _ ((Exc.of u).trans Exc.upd) d ⟨⟨j,A6⟩,by rw[D8 h];exact A6,by rw[D8 g];exact u _ _ i⟩
def Wy.goes(y:Wy)(s a part:Int):Bool:=match y with
 | .down=>false
 | .up=>true
 | .floor=>decide (V.int s=V.int 1)
 | .ceiling=>decide (V.int s=V.int 0)
 | .halfUp=>decide (part>=2)
 | .halfDown=>decide (V.int part=V.int 3)
 | .halfEven=>if decide (V.int part=V.int 3)=true then true else if decide (V.int part=V.int 2)=true then decide (V.int (a % 2)=V.int 1) else false
 | .fiveUp=>inV (.int a) [.int 0,.int 5]
def Wy.toEnd(y:Wy)(s:Int):Bool:=match y with
 | .down=>false
 | .up=>true
 | .floor=>decide (V.int s=V.int 1)
 | .ceiling=>decide (V.int s=V.int 0)
 | .halfUp=>true
 | .halfDown=>true
 | .halfEven=>true
 | .fiveUp=>false
inductive A7q(y:Wy)(vs:List V)(H:Hp)(Q:VK)(_:XK):Prop
 |mk(p s l t)(_:vs=[.ref p,.int s,.int l,.int t])(_:∀a,C9 H a ->Q (.bl (y.goes s l t)) a)
inductive A4q(y:Wy)(vs:List V)(H:Hp)(Q:VK)(_:XK):Prop
 |mk(p s)(_:vs=[.ref p,.int s])(_:∀a,C9 H a ->Q (.bl (y.toEnd s)) a)
def U7w(P:Program)(w:World)(K:Frag)(Y:Str ->Option Value)(Z:Heap)(C:Addr)(y:Wy):Prop:=Has P w K Y Z C "goes_up" 1 Q7 (A7q y)
def U8s(P:Program)(w:World)(K:Frag)(Y:Str ->Option Value)(Z:Heap)(C:Addr)(y:Wy):Prop:=Has P w K Y Z C "to_end" 1 Q8 (A4q y)
abbrev sU0:Stmt:=(U2 (top 54) 1)
def V3g:B9 Q7 Q7 (A5 sU0):=scK
def U8q(F:Fun K "goes_up" "Down.goes_up" sU0 f fd):sI P w K Y Z 1 f fd Q7 (A7q .down):=by
 refine okY F V3g ?_
 rintro _ _ _ _ H _ Q E a _⟨p,z,l,t,rfl,k⟩
 refine⟨_,(A3 (A7 B0q)),?_⟩
 exact k H (C9.refl H)
abbrev sT0:Stmt:=(U2 (top 54) 2)
def V2w:B9 Q8 Q8 (A5 sT0):=scK
def U7a(F:Fun K "to_end" "Down.to_end" sT0 f fd):sI P w K Y Z 1 f fd Q8 (A4q .down):=by
 refine okY F V2w ?_
 rintro _ _ _ _ H _ Q E a _⟨p,z,rfl,k⟩
 refine⟨_,(A3 (A7 B0q)),?_⟩
 exact k H (C9.refl H)
abbrev sU1:Stmt:=(U2 (top 55) 1)
def V3s:B9 Q7 Q7 (A5 sU1):=scK
def U6v(F:Fun K "goes_up" "Up.goes_up" sU1 f fd):sI P w K Y Z 1 f fd Q7 (A7q .up):=by
 refine okY F V3s ?_
 rintro _ _ _ _ H _ Q E a _⟨p,z,l,t,rfl,k⟩
 refine⟨_,(A3 (A7 B0q)),?_⟩
 exact k H (C9.refl H)
abbrev sT1:Stmt:=(U2 (top 55) 2)
def V2b:B9 Q8 Q8 (A5 sT1):=scK
def U7v(F:Fun K "to_end" "Up.to_end" sT1 f fd):sI P w K Y Z 1 f fd Q8 (A4q .up):=by
 refine okY F V2b ?_
 rintro _ _ _ _ H _ Q E a _⟨p,z,rfl,k⟩
 refine⟨_,(A3 (A7 B0q)),?_⟩
 exact k H (C9.refl H)
abbrev sU2:Stmt:=(U2 (top 56) 1)
def V3d:B9 Q7 Q7 (A5 sU2):=scK
def U7h(F:Fun K "goes_up" "Floor.goes_up" sU2 f fd):sI P w K Y Z 1 f fd Q7 (A7q .floor):=by
 refine okY F V3d ?_
 rintro _ _ _ _ H _ Q E a _⟨p,z,l,t,rfl,k⟩
 exact⟨_,(A3 (A7 (V6 D5 (pv 1) A4 B8))),rfl,k H (C9.refl H)⟩
abbrev sT2:Stmt:=(U2 (top 56) 2)
def V2e:B9 Q8 Q8 (A5 sT2):=scK
def U5p(F:Fun K "to_end" "Floor.to_end" sT2 f fd):sI P w K Y Z 1 f fd Q8 (A4q .floor):=by
 refine okY F V2e ?_
 rintro _ _ _ _ H _ Q E a _⟨p,z,rfl,k⟩
 exact⟨_,(A3 (A7 (V6 D5 (pv 1) A4 B8))),rfl,k H (C9.refl H)⟩
abbrev sU3:Stmt:=(U2 (top 57) 1)
def V2t:B9 Q7 Q7 (A5 sU3):=scK
def U6y(F:Fun K "goes_up" "Ceiling.goes_up" sU3 f fd):sI P w K Y Z 1 f fd Q7 (A7q .ceiling):=by
 refine okY F V2t ?_
 rintro _ _ _ _ H _ Q E a _⟨p,z,l,t,rfl,k⟩
 exact⟨_,(A3 (A7 (V6 D5 (pv 1) A4 B8))),rfl,k H (C9.refl H)⟩
abbrev sT3:Stmt:=(U2 (top 57) 2)
def V3m:B9 Q8 Q8 (A5 sT3):=scK
def U6q(F:Fun K "to_end" "Ceiling.to_end" sT3 f fd):sI P w K Y Z 1 f fd Q8 (A4q .ceiling):=by
 refine okY F V3m ?_
 rintro _ _ _ _ H _ Q E a _⟨p,z,rfl,k⟩
 exact⟨_,(A3 (A7 (V6 D5 (pv 1) A4 B8))),rfl,k H (C9.refl H)⟩
abbrev sU4:Stmt:=(U2 (top 58) 1)
def V2u:B9 Q7 Q7 (A5 sU4):=scK
def U4q(F:Fun K "goes_up" "HalfUp.goes_up" sU4 f fd):sI P w K Y Z 1 f fd Q7 (A7q .halfUp):=by
 refine okY F V2u ?_
 rintro _ _ _ _ H _ Q E a _⟨p,z,l,t,rfl,k⟩
 refine⟨_,(A3 (A7 (V6 B1s (pv 3) A4 B8))),?_⟩
 exact k H (C9.refl H)
abbrev sT4:Stmt:=(U2 (top 58) 2)
def V3w:B9 Q8 Q8 (A5 sT4):=scK
def U8f(F:Fun K "to_end" "HalfUp.to_end" sT4 f fd):sI P w K Y Z 1 f fd Q8 (A4q .halfUp):=by
 refine okY F V3w ?_
 rintro _ _ _ _ H _ Q E a _⟨p,z,rfl,k⟩
 refine⟨_,(A3 (A7 B0q)),?_⟩
 exact k H (C9.refl H)
abbrev sU5:Stmt:=(U2 (top 59) 1)
def V3t:B9 Q7 Q7 (A5 sU5):=scK
def U6p(F:Fun K "goes_up" "HalfDown.goes_up" sU5 f fd):sI P w K Y Z 1 f fd Q7 (A7q .halfDown):=by
 refine okY F V3t ?_
 rintro _ _ _ _ H _ Q E a _⟨p,z,l,t,rfl,k⟩
 exact⟨_,(A3 (A7 (V6 D5 (pv 3) A4 B8))),rfl,k H (C9.refl H)⟩
abbrev sT5:Stmt:=(U2 (top 59) 2)
def V2v:B9 Q8 Q8 (A5 sT5):=scK
def U6r(F:Fun K "to_end" "HalfDown.to_end" sT5 f fd):sI P w K Y Z 1 f fd Q8 (A4q .halfDown):=by
 refine okY F V2v ?_
 rintro _ _ _ _ H _ Q E a _⟨p,z,rfl,k⟩
 refine⟨_,(A3 (A7 B0q)),?_⟩
 exact k H (C9.refl H)
abbrev sU6:Stmt:=(U2 (top 60) 1)
def V0x:B9 Q7 Q7 (A5 sU6):=scK
def U8c(F:Fun K "goes_up" "HalfEven.goes_up" sU6 f fd):sI P w K Y Z 1 f fd Q7 (A7q .halfEven):=by
 refine okY F V0x ?_
 rintro _ _ _ _ H _ Q E b _⟨p,z,l,t,rfl,k⟩
 refine⟨_,(A3 (A7 (J6p (V6 D5 (pv 3) A4 B8) (A3y (A7b (V6 D5 (pv 3) A4 B8) (A3y (V6 D5 (D0 Y2 (pv 2) A4) A4 B8))))))),?_⟩
 have k:=k H (C9.refl H)
 unfold Wy.goes at k
 refine⟨rfl,rfl,?_⟩
 cases e:decide (V.int t=V.int 3) with
 |true=>rw[e] at k;exact Y9 k
 | false=>
   rw[e] at k
   refine V4 ⟨rfl,rfl,?_⟩
   cases a:decide (V.int t=V.int 2) with
   |true=>rw[a] at k;exact Y9 ⟨(by decide:(0:Int)<2),rfl,k⟩
   |false=>rw[a] at k;exact V4 k
abbrev sT6:Stmt:=(U2 (top 60) 2)
def V0z:B9 Q8 Q8 (A5 sT6):=scK
def U5a(F:Fun K "to_end" "HalfEven.to_end" sT6 f fd):sI P w K Y Z 1 f fd Q8 (A4q .halfEven):=by
 refine okY F V0z ?_
 rintro _ _ _ _ H _ Q E a _⟨p,z,rfl,k⟩
 refine⟨_,(A3 (A7 B0q)),?_⟩
 exact k H (C9.refl H)
abbrev sU7:Stmt:=(U2 (top 61) 1)
def V2k:B9 Q7 Q7 (A5 sU7):=scK
def U5k(F:Fun K "goes_up" "FiveUp.goes_up" sU7 f fd):sI P w K Y Z 1 f fd Q7 (A7q .fiveUp):=by
 refine okY F V2k ?_
 rintro _ _ _ _ H _ Q E b _⟨p,z,l,t,rfl,k⟩
 exact⟨_,(A3 (A7 (V6 A1c (pv 2) (A0s (A0 A4 (A0 A4 A1))) (by rfl)))),C6 (by decide),fun q a=>⟨q,_,rfl,.inr (SqT.of A6),rfl,rfl,k _ (C9.upd a)⟩⟩
abbrev sT7:Stmt:=(U2 (top 61) 2)
def V0u:B9 Q8 Q8 (A5 sT7):=scK
def U6w(F:Fun K "to_end" "FiveUp.to_end" sT7 f fd):sI P w K Y Z 1 f fd Q8 (A4q .fiveUp):=by
 refine okY F V0u ?_
 rintro _ _ _ _ H _ Q E a _⟨p,z,rfl,k⟩
 refine⟨_,(A3 (A7 B0q)),?_⟩
 exact k H (C9.refl H)
abbrev A4k:Stmt:=(top 33)
abbrev A8x:Stmt:=(top 34)
abbrev A2h:Stmt:=(top 35)
abbrev B0c:Stmt:=(top 36)
abbrev A6w:Stmt:=(top 37)
abbrev B8f:Stmt:=(top 38)
abbrev B0z:Stmt:=(top 39)
abbrev A8q:Stmt:=(top 40)
abbrev A8y:Stmt:=(top 41)
abbrev A1n:Stmt:=(top 42)
structure Cv where
 r:Int
 y:Wy
 l:Int
 m:Int
structure Cv.Ok(c:Cv):Prop where
 r1:1<=c.r
 r2:c.r<=24
 l1: -60<=c.l
 l2:c.l<=0
 m1:0<=c.m
 m2:c.m<=60
def strip(a:Int):Nat ->Int ->Int ->Int×Int
 |0,f,p=>(f,p)
 |n+1,f,p=>if f % 10=0 then strip a n (f/10) (p+1) else(f,p)
def A3z(a f p:Int):Int×Int:=strip a (a-p).toNat f p
def C9y{a f p:Int}(h:p<a)(z:f % 10=0):A3z a f p=A3z a (f/10) (p+1):=by
 unfold A3z
 obtain⟨n,b⟩:∃n,(a-p).toNat=n+1:=⟨(a-p).toNat-1,by lia⟩
 rw[b,show(a-(p+1)).toNat=n by lia]
 show(if f % 10=0 then strip a n (f/10) (p+1) else(f,p))=_
 rw[aC z]
def D1j{a f p:Int}(h:¬(p<a/\f % 10=0)):A3z a f p=(f,p):=by
 unfold A3z
 by_cases q:p<a
 . obtain⟨n,b⟩:∃n,(a-p).toNat=n+1:=⟨(a-p).toNat-1,by lia⟩
   rw[b]
   show(if f % 10=0 then strip a n (f/10) (p+1) else(f,p))=_
   rw[aA fun z=>h ⟨q,z⟩]
 rw[show(a-p).toNat=0 by lia]
 rfl
def A6k(f:Int):Int:=((Str.ofString (toString f)).length:Nat)
def upI(y:Wy)(s wh pt:Int):Int:=if(if pt=0 then false else y.goes s (wh % 10) pt)=true then wh+1 else wh
def A1y(r f q:Int):Int×Int:=if f=A8 r then(f/10,q+1) else(f,q)
def A1t(c:Cv)(s wh pt q a:Int):Int×Int:=if pt=0 then A3z a wh q else A1y c.r (upI c.y s wh pt) q
def A0j(m f p:Int):Bool:=if f=0 then false else decide (p+A6k f-1>m)
def C2v(c:Cv)(s:Int):Nm:=if c.y.toEnd s=true then⟨.end_,s,0,0⟩ else⟨.plain,s,A8 c.r-1,c.m-c.r+1⟩
def A2u(pt:Int)(cut:Bool):List Str:=if pt=0 then(if cut=true then ["cut"] else []) else ["off","cut"]
def A4f(l L pt:Int):List Str:=if L>=l then [] else if pt=0 then ["faint"] else ["sunk","faint"]
def A6s(c:Cv)(s wh pt L q a:Int):Nm×List Str:=
 if A0j c.m (A1t c s wh pt q a).1 (A1t c s wh pt q a).2=true then(C2v c s,Q54)
 else(⟨.plain,s,(A1t c s wh pt q a).1,(A1t c s wh pt q a).2⟩,A2u pt (decide ((A1t c s wh pt q a).2>a))++A4f c.l L pt)
def A2x(a b:Int):Int:=if b>a then b else a
def C4j(a b:Int):Int:=if b<a then b else a
def U5(d:Addr)(H:Hp)(c:Addr)(v:Cv)(a b:Addr)(xs ys:List Str):Prop:=A2s d H c v.r v.y v.l v.m a b (xs.map V.str) (ys.map V.str)
def U5.same(h:U5 f H c v a b xs ys)(e:C9 H d):U5 f d c v a b xs ys:=A2s.same h e
def A3r{H:Hp}{Q:VK}(h:∀n c,H n=none ->C9 H c ->A5g d c n k s f p ->Q (.ref n) c):
   ∀x a,H x=none ->H a=none ->a≠x ->C4n d (.ref x::([k,s,f,p]++ [])) (upd (upd H a (.own x)) x (.ins d a [])) (fun v j=>v= .non/\Q (.ref x) j) E:=by
 intro x a nx g l
 refine⟨x,a,k,s,f,p,rfl,A6,fun c e i=>⟨rfl,h x c nx (fun b o z=>?_) ⟨a,e⟩⟩⟩
 refine i b o ?_ (D6 z nx)
 rw[D8 (D6 z nx),D8 (D6 z g)]
 exact z
structure A3k(P:Program)(w:World)(K:Frag)(mg:Str ->Option Value)(base:Heap)(CC CB CT CW:Addr)(cw:Wy ->Addr):Prop where
 c:B3p K mg CC
 way:Has P w K mg base CC "way" 2 ["self"] (B9g CC cw)
 low:Has P w K mg base CC "lowest" 1 ["self"] (B9d CC)
 raised:Has P w K mg base CC "raised" 3 Q25 (B9h K CC CB CT)
 wc:∀y:Wy,B5z K mg y.cls (cw y) CW
 u:∀y:Wy,U7w P w K mg base (cw y) y
 e:∀y:Wy,U8s P w K mg base (cw y) y
inductive C1p(b:Addr)(vs:List V)(H:Hp)(Q:VK)(_:XK):Prop
 |mk(i s f p:Int)(_:vs=[.int i,.int s,.int f,.int p])(_:∀n a,H n=none ->C9 H a ->J0 b a n ⟨.plain,s,(A3z i f p).1,(A3z i f p).2⟩ ->Q (.ref n) a)
def scNearest:B9 Q31 Q31 (A5 A8x):=scK
def C8p(D:Def K Y "nearest_to" Q31 A8x f fd)(N:Num K Y r)(M:A4g P w K Y Z r F A):sI P w K Y Z 3 f fd Q31 (C1p r):=by
 refine okY D.F scNearest ?_
 rintro _ _ _ _ H _ Q E z y⟨i,s,v,t,rfl,k⟩
 refine⟨_,(A2 (B2r iE (PW.pt (A5u (B5 B0k (pv 3) (pv 0) B8) (A3p (B5 D5 (D0 Y2 (pv 2) A4) A4 B8)))) (A2 (psz (i:=2) scNearest.nd (D0 U3 (pv 2) A4)) (A3 (psz (i:=3) scNearest.nd (D0 V8 (pv 3) A4))))) (A3 (A7 (A0r M.m (B0.up M.g) z N.g M.b .nil y (A0 A9 (A0 (pv 1) (A0 (pv 2) (A0 (pv 3) A1)))))))),?_⟩
 have j:(0:Int)<10/\(10:Int).natAbs.log2<9000:=⟨by decide,by decide+kernel⟩
 refine B3b (fun b l=>l=H/\∃f p:Int,A3z i f p=A3z i v t/\b=[si i,si s,si f,si p]) (fun b _=>match b with| [_,_,_,some (.int p)]=>(i-p).toNat|_=>0) ?_ ?_ ?_
 . exact⟨rfl,v,t,rfl,rfl⟩
 . rintro b l ⟨rfl,f,p,e,rfl⟩
   have a:¬(p<i/\f % 10=0) ->∀n m,l n=none ->C9 l m ->A5g r m n (.str "plain") (.int s) (.int f) (.int p) ->Q (.ref n) m:=fun h n m nn x o=>by
     refine k n m nn x ?_
     rw[<-e,D1j h]
     exact o
   refine⟨rfl,G5 (fun g=>?_) (fun g=>V4 (A3r (a fun q=>g q.1)))⟩
   refine⟨j.1,rfl,rfl,G5 (fun d=>?_) (fun d=>A3r (a fun q=>d (aM V.int q.2)))⟩
   have g:p<i:=g
   have d:f % 10=0:=by injection d
   refine⟨j,⟨rfl,f/10,p+1,(C9y g d).symm.trans e,rfl⟩,?_⟩
   show(i-(p+1)).toNat<(i-p).toNat
   lia
 refine fun b l I G u=>A5r fun _=>A5r fun _=>A9u fun _=>B6b fun _ q=>?_
 obtain @⟨c,e,q⟩:=q
 refine⟨e,?_⟩
 cases c with
 |false=>exact V4 (u _ _ (by simpa using q))
 | true=>
   have q:_:=q
   rw[aC rfl] at q ⊢
   revert q
   exact A5r fun _=>A9u fun _=>A9u fun _ ⟨e,C,B,q⟩=>⟨e,C,B,u _ _ q⟩
inductive A5t(e:Addr)(vs:List V)(H:Hp)(Q:VK)(_:XK):Prop
 |mk(c v a b xs ys p) (s wh pt:Int)(_:vs=[.ref c,.int s,.ref p])(_:U5 e H c v a b xs ys)(_:H p=some (.tup [.int wh,.int pt]))(_:∀d,C9 H d ->Q (.int (upI v.y s wh pt)) d)
def C5y:B9 Q17 Q17 (A5 A2h):=scK
def C2e(D:Def K Y "neighbour" Q17 A2h f fd)(C:A3k P w K Y Z I CB T CW cw):sI P w K Y Z 3 f fd Q17 (A5t I):=by
 refine okY D.F C5y ?_
 rintro _ _ _ _ H _ Q E o n⟨c,v,a,b,xs,ys,p,m,wh,pt,rfl,r,d,k⟩
 obtain⟨L,z,t,x,F⟩:=C.way
 obtain⟨M,A,u,y,G⟩:=C.u v.y
 refine⟨_,(A2 (D3 (PW.pt (A5u (B5 A5b (G7 A0d (pv 2) A4 (fun _ _=>rfl)) A4 B8) (A3p (V3 (A2z (Y6 (pv 0) C.c.cl t x o F .nil n) (C.wc v.y).cl u y o G .nil n (A0 (pv 1) (A0 (D0 Y2 (G7 A0d (pv 2) A4 (fun _ _=>rfl)) A4) (A0 (G7 A0d (pv 2) A4 (fun _ _=>rfl)) A1)))))))) (A3 (A7 (D0 V8 (G7 A0d (pv 2) A4 (fun _ _=>rfl)) A4))) C0) (A3 (A7 (G7 A0d (pv 2) A4 (fun _ _=>rfl))))),?_⟩
 obtain⟨⟨N,e⟩,_,_⟩:=id r
 unfold upI at k
 refine⟨rfl,rfl,SqT.of d,D9 (j:=1) rfl,rfl,rfl,?_⟩
 by_cases l:pt=0
 . subst l
   rw[aC rfl,aA aB] at k
   exact B0n rfl (V4 ⟨rfl,rfl,SqT.of d,D9 (j:=0) rfl,k H (C9.refl H)⟩)
 rw[aA l] at k
 rw[aI (fun q=>l (by injection q):¬V.int pt=V.int 0)]
 refine Y9 ⟨rfl,e,A4u,c,v.r,v.y,v.l,v.m,a,b,_,_,rfl,r,fun q O R J i B=>?_⟩
 refine⟨rfl,B,rfl,rfl,rfl,SqT.of (i _ _ d),D9 (j:=0) rfl,(by decide:(0:Int)<10),rfl,rfl,SqT.of (i _ _ d),D9 (j:=1) rfl,q,m,wh % 10,pt,rfl,fun s s2=>⟨rfl,?_⟩⟩
 have h:=i.trans s2
 cases g:v.y.goes m (wh % 10) pt with
 | true=>
   rw[g,aC rfl] at k
   exact Y9 ⟨rfl,rfl,SqT.of (h _ _ d),D9 (j:=0) rfl,k s h⟩
 | false=>
   rw[g,aA aB] at k
   exact V4 ⟨rfl,rfl,SqT.of (h _ _ d),D9 (j:=0) rfl,k s h⟩
inductive B9f(e g:Addr)(vs:List V)(H:Hp)(Q:VK)(_:XK):Prop
 |mk(c v a b xs ys) (s f q:Int)(_:vs=[.ref c,.int s,.int f,.int q])(_:U5 g H c v a b xs ys)(_:v.Ok)(_:∀n d,H n=none ->C9 H d ->J0 e d n ⟨.plain,s,(A1y v.r f q).1,(A1y v.r f q).2⟩ ->Q (.ref n) d)
def G3b:B9 Q21 Q21 (A5 B0c):=scK
def D7h(D:Def K Y "within_room" Q21 B0c f fd)(s:Def K Y "ten_to" ["count"] A1w p i)(r:sI P w K Y Z 2 p i ["count"] A1s)(C:A3k P w K Y Z t CB F CW cw)(N:Num K Y m)(M:A4g P w K Y Z m A o):
   sI P w K Y Z 3 f fd Q21 (B9f m t):=by
 refine okY D.F G3b ?_
 rintro _ _ _ _ H _ Q E g d⟨c,v,a,b,xs,ys,u,l,q,rfl,n,ok,k⟩
 refine⟨_,(A2 (D3 (B5 D5 (pv 2) (B7 s r g d (A0 (C7 (pv 0) rfl) A1)) B8) (A3 (A7 (A0r M.m (B0.up M.g) g N.g M.b .nil d (A0 A9 (A0 (pv 1) (A0 (D0 U3 (pv 2) A4) (A0 (D0 V8 (pv 3) A4) A1))))))) C0) (A3 (A7 (A0r M.m (B0.up M.g) g N.g M.b .nil d (A0 A9 (A0 (pv 1) (A0 (pv 2) (A0 (pv 3) A1)))))))),?_⟩
 have j:(0:Int)<10/\(10:Int).natAbs.log2<9000:=⟨by decide,by decide+kernel⟩
 obtain⟨⟨B,e⟩,_,_⟩:=id n
 have y:=ok.r1;have x:=ok.r2
 refine⟨rfl,e,C.c.cl,C.c.n_room,A0f,v.r.toNat,(by rw[cC (by lia)];rfl),by lia,rfl,rfl,?_⟩
 unfold A1y at k
 refine G5 (fun h=>?_) (fun h=>?_)
 . have h:l=A8 v.r:=by injection h
   rw[aC h] at k
   exact⟨j,A3r k⟩
 have h:¬l=A8 v.r:=fun z=>h (aM V.int z)
 rw[aA h] at k
 exact A3r k
inductive B3m(d e:Addr)(vs:List V)(H:Hp)(Q:VK)(_:XK):Prop
 |mk(c v a b xs ys n x)(_:vs=[.ref c,.ref n])(_:U5 e H c v a b xs ys)(_:J0 d H n x)(_:x.f.natAbs<2^300)(_:Q (.bl (A0j v.m x.f x.p)) H)
def G1m:B9 Q9 Q9 (A5 A6w):=scK
def D7s(D:Def K Y "is_beyond" Q9 A6w f fd)(t:Def K Y "lead_of" ["number"] C0v p g)(s:sI P w K Y Z 1 p g ["number"] (C4x i))(C:A3k P w K Y Z u CB A CW cw)(N:Num K Y i):
   sI P w K Y Z 2 f fd Q9 (B3m i u):=by
 refine okY D.F G1m ?_
 rintro _ _ _ _ H _ Q E l j⟨c,v,a,b,xs,ys,n,x,rfl,o,h,m,k⟩
 refine⟨_,(A3 (A7 (A7b (V6 A5b (C7 (pv 1) rfl) A4 B8) (A3y (V6 A5n (B7 t s l j (A0 (pv 1) A1)) (C7 (pv 0) rfl) B8))))),?_⟩
 obtain⟨⟨y,e⟩,_,_⟩:=id o
 obtain⟨z,r⟩:=id h
 unfold A0j at k
 refine⟨rfl,r,N.cl,N.n3,A1z,rfl,rfl,?_⟩
 by_cases d:x.f=0
 . rw[aC d] at k
   rw[aT (aM V.int d)]
   exact V4 k
 rw[aA d] at k
 rw[aI (fun q=>d (by injection q):¬V.int x.f=V.int 0)]
 exact Y9 ⟨n,_,_,_,_,rfl,h,m,rfl,e,C.c.cl,C.c.n_most,A3w,k⟩
inductive B6y(e f:Addr)(vs:List V)(H:Hp)(Q:VK)(_:XK):Prop
 |mk(c v a b xs ys) (s:Int)(_:vs=[.ref c,.int s])(_:U5 f H c v a b xs ys)(_:v.Ok)(_:∀n d,H n=none ->C9 H d ->J0 e d n ⟨.plain,s,A8 v.r-1,v.m-v.r+1⟩ ->Q (.ref n) d)
def J1n:B9 Q5 Q5 (A5 B0z):=scK
def G4m(D:Def K Y "nines" Q5 B0z f fd)(o:Def K Y "ten_to" ["count"] A1w m d)(n:sI P w K Y Z 2 m d ["count"] A1s)(C:A3k P w K Y Z p CB x CW cw)(N:Num K Y i)(M:A4g P w K Y Z i t l):
   sI P w K Y Z 3 f fd Q5 (B6y i p):=by
 refine okY D.F J1n ?_
 rintro _ _ _ _ H _ Q E h g⟨c,v,a,b,xs,ys,q,rfl,j,ok,k⟩
 refine⟨_,(A3 (A7 (A0r M.m (B0.up M.g) h N.g M.b .nil g (A0 A9 (A0 (pv 1) (A0 (D0 Y4 (B7 o n h g (A0 (C7 (pv 0) rfl) A1)) A4) (A0 (D0 V8 (D0 Y4 (C7 (pv 0) rfl) (C7 (pv 0) rfl)) A4) A1))))))),?_⟩
 obtain⟨⟨u,e⟩,_,_⟩:=id j
 have s:=ok.r1;have r:=ok.r2
 exact⟨rfl,e,C.c.cl,C.c.n_room,A0f,v.r.toNat,(by rw[cC (by lia)];rfl),by lia,rfl,e,C.c.cl,C.c.n_most,A3w,rfl,e,C.c.cl,C.c.n_room,A0f,A3r k⟩
inductive D5k(e f:Addr)(vs:List V)(H:Hp)(Q:VK)(_:XK):Prop
 |mk(c v a b xs ys) (s:Int)(_:vs=[.ref c,.int s])(_:U5 f H c v a b xs ys)(_:v.Ok)(_:0<=s)(_:s<=1)(_:∀n d,C9 H d ->J0 e d n (C2v v s) ->Q (.ref n) d)
def J1m:B9 Q5 Q5 (A5 B8f):=scK
def G0u(D:Def K Y "burst" Q5 B8f f fd)(R:Def K Y "nines" Q5 B0z J p)(O:sI P w K Y Z 3 J p Q5 (B6y s t))(N:Def K Y "end" ["sign"] B9v I o)(M:sI P w K Y Z 3 I o ["sign"] (B5m K s W))(C:A3k P w K Y Z t CB CT CW cw):
   sI P w K Y Z 4 f fd Q5 (D5k s t):=by
 refine okY D.F J1m ?_
 rintro _ _ _ _ H _ Q E j i⟨c,v,a,b,xs,ys,h,rfl,m,ok,s0,x,k⟩
 obtain⟨fW,F,y,A,T⟩:=C.way
 obtain⟨fU,G,z,B,U⟩:=C.e v.y
 refine⟨_,(A3 (A7 (G6 (V3 (A2z (Y6 (pv 0) C.c.cl y A j T .nil i) (C.wc v.y).cl z B j U .nil i (A0 (pv 1) A1))) (B7 N M j i (A0 (pv 1) A1)) (B7 R O j i (A0 (pv 0) (A0 (pv 1) A1)))))),?_⟩
 obtain⟨⟨dx,e⟩,_,_⟩:=id m
 unfold C2v at k
 refine⟨rfl,e,A4u,c,v.r,v.y,v.l,v.m,a,b,_,_,rfl,m,fun q dq H1 X u L=>?_⟩
 refine⟨rfl,L,rfl,q,h,rfl,fun H2 t2=>⟨rfl,?_⟩⟩
 have t3:=u.trans t2
 cases g:v.y.toEnd h with
 | true=>
   rw[g,aC rfl] at k
   exact Y9 ⟨_,rfl,.inl ⟨⟨h,rfl,s0,x⟩,fun n r _ l d=>k n r (t3.trans l) d⟩⟩
 | false=>
   rw[g,aA aB] at k
   exact V4 ⟨c,v,a,b,xs,ys,h,rfl,m.same t3,ok,fun n r _ l d=>k n r (t3.trans l) d⟩
inductive B4w(vs:List V)(H:Hp)(Q:VK)(_:XK):Prop
 |mk(pt:Int) (cut:Bool)(_:vs=[.int pt,.bl cut])(_:∀l,H l=none ->Q (.ref l) (upd H l (.lst ((A2u pt cut).map V.str))))
def D7k:B9 Q26 Q26 (A5 A8q):=scK
def C9s(D:Def K Y "signals_of_rest" Q26 A8q f fd):sI P w K Y Z 1 f fd Q26 B4w:=by
 refine okY D.F D7k ?_
 rintro _ _ _ _ H _ Q E b _⟨pt,cut,rfl,k⟩
 refine⟨_,(A2 (D3 (B5 A5b (pv 0) A4 B8) (A3 (A7 (G8 (A0 A9 (A0 A9 A1))))) C0) (A3 (A7 (G6 (V3 (pv 1)) (G8 (A0 A9 A1)) (G8 A1))))),?_⟩
 unfold A2u at k
 refine⟨rfl,rfl,?_⟩
 by_cases a:pt=0
 . subst a
   rw[aC rfl] at k
   refine B0n rfl ⟨rfl,?_⟩
   cases cut with
   |true=>exact Y9 ⟨C6 (by decide),k⟩
   |false=>exact V4 ⟨C6 (by decide),k⟩
 rw[aA a] at k
 rw[aI (fun q=>a (by injection q):¬V.int pt=V.int 0)]
 exact Y9 ⟨C6 (by decide),k⟩
inductive B4x(d:Addr)(vs:List V)(H:Hp)(Q:VK)(_:XK):Prop
 |mk(c v a b xs ys) (L pt:Int)(_:vs=[.ref c,.int L,.int pt])(_:U5 d H c v a b xs ys)(_:∀l,H l=none ->Q (.ref l) (upd H l (.lst ((A4f v.l L pt).map V.str))))
def D7e:B9 Q27 Q27 (A5 A8y):=scK
def C9z(D:Def K Y "signals_of_lead" Q27 A8y f fd)(C:A3k P w K Y Z g CB l CW cw):sI P w K Y Z 1 f fd Q27 (B4x g):=by
 refine okY D.F D7e ?_
 rintro _ _ _ _ H _ Q E i _⟨c,v,a,b,xs,ys,L,pt,rfl,d,k⟩
 refine⟨_,(A2 (D3 (B5 B1s (pv 1) (C7 (pv 0) rfl) B8) (A3 (A7 (G8 A1))) C0) (A3 (A7 (G6 (B5 D5 (pv 2) A4 B8) (G8 (A0 A9 A1)) (G8 (A0 A9 (A0 A9 A1))))))),?_⟩
 obtain⟨⟨j,e⟩,_,_⟩:=id d
 unfold A4f at k
 refine⟨rfl,e,C.c.cl,C.c.n_least,A6h,rfl,G5 (fun h=>?_) (fun h=>?_)⟩
 . rw[aC h] at k
   exact⟨C6 (by decide),k⟩
 rw[aA h] at k
 refine⟨rfl,rfl,G5 (fun h=>?_) (fun h=>?_)⟩
 . rw[aC (by injection h)] at k
   exact⟨C6 (by decide),k⟩
 rw[aA fun q=>h (aM V.int q)] at k
 exact⟨C6 (by decide),k⟩
inductive A2d(e f:Addr)(vs:List V)(H:Hp)(Q:VK)(_:XK):Prop
 |mk(c v a b xs ys) (s i:Int)(_:vs=[.ref c,.int s,.int i])(_:U5 f H c v a b xs ys)(_:∀n d,H n=none ->C9 H d ->J0 e d n ⟨.plain,s,0,C4j (A2x i (v.l-v.r+1)) v.m⟩ ->Q (.ref n) d)
def G2n:B9 Q11 Q11 (A5 A1n):=scK
def D7a(D:Def K Y "nought" Q11 A1n f fd)(C:A3k P w K Y Z p CB u CW cw)(N:Num K Y j)(M:A4g P w K Y Z j s n)(O:Own Y):sI P w K Y Z 3 f fd Q11 (A2d j p):=by
 refine okY D.F G2n ?_
 rintro _ _ _ _ H _ Q E g d⟨c,v,a,b,xs,ys,q,i,rfl,h,k⟩
 obtain⟨r,m,l,gL,o⟩:=C.low
 refine⟨_,(A3 (A7 (A0r M.m (B0.up M.g) g N.g M.b .nil d (A0 A9 (A0 (pv 1) (A0 A4 (A0 (G9 (A4r rfl) (by rfl) O.min_ boot_min (A0 (G9 (A2r rfl) (by rfl) O.max_ jQ (A0 (pv 2) (A0 (Y6 (pv 0) C.c.cl l gL g o .nil d) A1))) (A0 (C7 (pv 0) rfl) A1))) A1))))))),?_⟩
 obtain⟨⟨t,e⟩,_,_⟩:=id h
 exact⟨rfl,e,A0b,c,v.r,v.y,v.l,v.m,a,b,_,_,rfl,h,_,_,rfl,rfl,e,C.c.cl,C.c.n_most,A3w,_,_,rfl,A3r k⟩
abbrev A2b:Stmt:=(top 32)
abbrev A3s:Stmt:=(top 45)
def B7g(i:Int):∀(n:Nat) (f p:Int),0<=f ->0<=(strip i n f p).1/\(strip i n f p).1<=f
 |0,f,p,h=>⟨h,fK _⟩
 | n +1,f,p,h=>by
   show 0<=(if f % 10=0 then strip i n (f/10) (p+1) else(f,p)).1/\(if f % 10=0 then strip i n (f/10) (p+1) else(f,p)).1<=f
   by_cases z:f % 10=0
   . rw[aC z]
     have:=B7g i n (f/10) (p+1) (by lia)
     lia
   . rw[aA z]
     exact⟨h,fK _⟩
def G3a{t b f c u2 v2 d:Nat}(h:t*10^f<10*(b*10^c))(e:u2+c<=f+v2+d):t*10^u2<10^(d+1)*(b*10^v2):=by
 have p:0<10^c:=fJ (by decide)
 apply Nat.lt_of_mul_lt_mul_right (a:=10^c)
 calc t*10^u2*10^c=t*10^(u2+c):=by rw[jC, <-cN]
   _<=t*10^(f+v2+d):=iB t (bH (by decide) e)
   _=t*10^f*(10^v2*10^d):=by rw[jC, <-cN, <-cN,Nat.add_assoc]
   _<10*(b*10^c)*(10^v2*10^d):=gO h (Nat.mul_pos (fJ (by decide)) (fJ (by decide)))
   _=10^(d+1)*(b*10^v2)*10^c:=by rw[eA];ac_rfl
def C3n{t b f s2 r:Int}(k:Sz t)(l:Sz b)(h:A0c t b f)(p:1<=r)(e:s2<=f+(r-1)):0<=whI t b s2/\whI t b s2<A8 r:=by
 obtain⟨j,rfl,_,_⟩:=k.nat
 obtain⟨i,rfl,q,_⟩:=l.nat
 have g:0<(i:Int)*A8 (-s2):=bT (by omega) (D7 _)
 refine⟨iF (fC (by omega) (bB (D7 _))) (bB g),?_⟩
 refine Int.ediv_lt_of_lt_mul g ?_
 have a:j*10^f.toNat<10*(i*10^(-f).toNat):=eB.mp h.2
 have c:=G3a (u2:=s2.toNat) (v2:=(-s2).toNat) (d:=(r-1).toNat) a (by
   have o:=Int.toNat_sub_toNat_neg f
   have n:=Int.toNat_sub_toNat_neg s2
   have m:=cC (show 0<=r-1 by omega)
   clear a g h
   generalize f.toNat=A at*
   generalize (-f).toNat=B at*
   generalize s2.toNat=C at*
   generalize (-s2).toNat=D at*
   generalize (r-1).toNat=E at*
   omega)
 rw[show(r-1).toNat+1=r.toNat by omega] at c
 exact eB.mpr c
def A5s{r:Int}(h:r<=24):A8 r<=10^24:=by
 unfold A8
 have:10^r.toNat<=10^24:=bH (by decide) (by lia)
 exact eQ.mpr this
def C9g{c:Cv}{s wh pt q i:Int}(ok:c.Ok)(f:0<=wh)(j:wh<A8 c.r):(A1t c s wh pt q i).1.natAbs<2^300:=by
 have t:=A5s ok.r2
 have h:((10^24:Nat):Int)=10^24:=by decide+kernel
 have lt:∀z:Int,0<=z ->z<=10^24 ->z.natAbs<2^300:=fun z a b=>aW (show z.natAbs<=10^24 by lia) (by decide+kernel)
 unfold A1t
 split
 . have:=B7g i (i-q).toNat wh q f
   exact lt _ this.1 (by unfold A3z;lia)
 have d:0<=upI c.y s wh pt/\upI c.y s wh pt<=A8 c.r:=by
   have e:upI c.y s wh pt=wh+1\/upI c.y s wh pt=wh:=by
     unfold upI
     generalize (if pt=0 then false else c.y.goes s (wh % 10) pt)=g
     cases g with
     |true=>exact .inl rfl
     |false=>exact .inr rfl
   lia
 generalize upI c.y s wh pt=u at d
 unfold A1y
 split
 . exact lt (u/10) (by lia) (by lia)
 exact lt u (by lia) (by lia)
inductive B8w(f CR:Addr)(vs:List V)(H:Hp)(Q:VK)(_:XK):Prop
 |mk(c v a b xs ys x) (t d n L:Int)(_:vs=[.ref c,.ref x])(_:U5 f H c v a b xs ys)(_:A6m CR H x t d n)(_:Sz t)(_:Sz d)(_:A0c t d (n-L))(_:∀e,C9 H e ->Q (.int (A2x (L-v.r+1) (v.l-v.r+1))) e)
def C5u:B9 Q15 Q15 (A5 A4k):=scK
def D6n{f p CB M CW CR CE A g2:Addr}(D:Def K Y "finest_power" Q15 A4k f fd)(C:A3k P w K Y Z p CB M CW cw)(g:D9c P w K Y Z CR A g2 z y)(R:B0j K Y CR CE)(O:Own Y):sI P w K Y Z 5 f fd Q15 (B8w p CR):=by
 refine okY D.F C5u ?_
 rintro _ _ _ _ H _ Q E l j⟨c,v,a,b,xs,ys,x,t,o,n,L,rfl,s,i,r,m,u,k⟩
 obtain⟨N,B,q,gL,I⟩:=C.low
 refine⟨_,(A3 (A7 (G9 (A2r rfl) (by rfl) O.max_ jQ (A0 (D0 V8 (D0 Y4 (Y6 (pv 1) R.cl g.m1 g.g1 l g.b1 .nil j) (C7 (pv 0) rfl)) A4) (A0 (Y6 (pv 0) C.c.cl q gL l I .nil j) A1))))),?_⟩
 obtain⟨U,F⟩:=id i
 refine⟨rfl,F,A7h,x,t,o,n,rfl,i,r,m,fun f J h ld=>?_⟩
 have G:f=L:=by
   have:=C2j (show 0<o by have:=m.1;lia) ld u
   lia
 subst G
 have d:=s.same h
 obtain⟨⟨T,e⟩,_,_⟩:=id d
 exact⟨rfl,e,C.c.cl,C.c.n_room,A0f,rfl,e,A0b,c,v.r,v.y,v.l,v.m,a,b,_,_,rfl,d,_,_,rfl,k J h⟩
def Cv.fin(v:Cv)(L:Int):Int:=A2x (L-v.r+1) (v.l-v.r+1)
def A3m(v:Cv)(s t a n L i:Int):Nm×List Str:=A6s v s (whI t a (n-v.fin L)) (ptI t a (n-v.fin L)) L (v.fin L) i
def C4c(d:Addr)(H:Hp)(c:Addr)(a':Addr):Prop:=∀z,H z≠none ->(∃v a b xs ys,U5 d H c v a b xs ys/\a≠z) ->a'≠z
def B9x{H:Hp}(h:H a'=none):C4c b H c a':=fun z a _ e=>a (e▸h)
def U5.uniq(h:U5 k H c v a b xs ys)(i:U5 k H c l j o g f):j=a:=by
 obtain⟨⟨m,e⟩,_,_⟩:=h
 obtain⟨⟨n,d⟩,_,_⟩:=i
 rw[e] at d
 injection d with d
 injection d with _ _ d
 have q:=A9n (.int v.r) (.str v.y.name) (.int v.l) (.int v.m) (.ref a) (.ref b)
 rw[d,A9n] at q
 injection q with q
 injection q with q
def V1p(h:U5 e H c v a b xs ys):C4c e H c a:=fun z _ ⟨_,_,_,_,_,d,n⟩=>by rw[<-h.uniq d];exact n
def D3v(s:C9 H f)(n:C4c g f c a'):C4c g H c a':=fun z d ⟨v,a,b,xs,ys,h,e⟩=>n z (fun q=>d (s.free q)) ⟨v,a,b,xs,ys,h.same s,e⟩
def V9(g e f:Addr)(H:Hp)(c:Addr)(v:Cv)(b:Addr)(xs ys:List Str)(res:Nm×List Str)(Q:VK)(E:XK):Prop:=
 (hit ys res.2=none ->∀m a' a,C4c e H c a' ->Exc c H a ->U5 e a c v a' b (V7 (xs++res.2)) ys ->J0 g a m res.1 ->Q (.ref m) a)/\
 (∀z,hit ys res.2=some z ->∀a' d a,C4c e H c a' ->Exc c H a ->U5 e a c v a' b (V7 (xs++res.2)) ys ->a d=some (.xd [("signal",.str z)]) ->E (.ref f) (some d) a)
inductive A1r(g e f CR:Addr)(vs:List V)(H:Hp)(Q:VK)(E:XK):Prop
 |mk(c v a b xs ys x) (t d n L s i:Int)(_:vs=[.ref c,.int s,.ref x,.int i])(_:U5 e H c v a b xs ys)(_:v.Ok)(_:xs.length<=900)(_:A6m CR H x t d n)(_:Sz t)(_:Sz d)(_:A0c t d (n-L))(_: -1500<=n-v.fin L)(_:n-v.fin L<=1500)(_:0<=s)(_:s<=1)(_:V9 g e f H c v b xs ys (A3m v s t d n L i) Q E)
def scSettled:B9 ["context","sign","exact","ideal","finest","pair","number","names"] Q14 (A5 A2b):=scK
def D6u:∀z∈(Q54:List Str),z∈A1d:=by decide+kernel
def B7m{pt:Int}{cut:Bool}{l L:Int}:∀z∈A2u pt cut++A4f l L pt,z∈A1d:=by
 have r:∀z∈A2u pt cut,z∈A1d:=by
   unfold A2u
   split
   . split
     . decide+kernel
     . decide+kernel
   . decide+kernel
 have d:∀z∈A4f l L pt,z∈A1d:=by
   unfold A4f
   split
   . decide+kernel
   . split
     . decide+kernel
     . decide+kernel
 intro z a
 rcases bO.mp a with h|h
 . exact r z h
 exact d z h
def B3e{pt:Int}{cut:Bool}{l L:Int}:(A2u pt cut++A4f l L pt).length<=4:=by
 have r:(A2u pt cut).length<=2:=by
   unfold A2u
   split
   . split<;>decide
   . decide
 have d:(A4f l L pt).length<=2:=by
   unfold A4f
   split
   . decide
   . split<;>decide
 rw[aG]
 lia
def A4b(v:Cv)(x:Nm)(L:Int):Nm×List Str:=match x.k with
 | .plain=>if x.f=0 then(⟨.plain,x.s,0,C4j (A2x x.p (v.l-v.r+1)) v.m⟩,[]) else A3m v x.s x.f 1 x.p L x.p
 |_=>(x,[])
structure Exa where
 At:Hp ->Addr ->Prop
 L:Int
 wh:Int ->Int
 pt:Int ->Int
 okq:Int ->Prop
structure ExV(CR:Addr)(sp1 sp2:Sp)(e:Exa):Prop where
 same:∀H H' x,e.At H x ->C9 H H' ->e.At H' x
 ins:∀H x,e.At H x ->∃dx fs,H x=some (.ins CR dx fs)/\fs.lookup ("first":Str)=none/\fs.lookup ("at":Str)=none
 first:∀H x (Q:VK) (E:XK),e.At H x ->(∀H',C9 H H' ->Q (.int e.L) H') ->sp1 [.ref x] H Q E
 at_:∀H x q (Q:VK) (E:XK),e.At H x ->e.okq q ->(∀p H',C9 H H' ->H p=none ->H' p=some (.tup [.int (e.wh q),.int (e.pt q)]) ->Q (.ref p) H') ->sp2 [.ref x,.int q] H Q E
structure ExM(P:Program)(w:World)(K:Frag)(mg:Str ->Option Value)(base:Heap)(CR f1 f2:Addr)(fd1 fd2:FuncData)(sp1 sp2:Sp):Prop where
 cl:Cls K CR
 m1:B3j K CR "first" f1
 g1:sI P w K mg base 4 f1 fd1 ["self"] sp1
 b1:Binds K fd1 ["self"] []
 m2:B3j K CR "at" f2
 g2:sI P w K mg base 5 f2 fd2 Q16 sp2
 b2:Binds K fd2 Q16 []
def B0.lift{P:Program}{w:World}{K:Frag}{Y:Str ->Option Value}{Z:Heap}{j k:Nat}(h:j<=k)(F:B0 P w K Y Z CX j f fd ps sp):B0 P w K Y Z CX k f fd ps sp:=
 ⟨F.len,fun A outer s H args us vs Q E a=>F.run A outer s H args us vs Q E (a.mono h)⟩
def B0.weak{P:Program}{w:World}{K:Frag}{Y:Str ->Option Value}{Z:Heap}{k:Nat}{sp a:Sp}(h:∀vs H Q E,a vs H Q E ->sp vs H Q E)(F:B0 P w K Y Z CX k f fd ps sp):B0 P w K Y Z CX k f fd ps a:=
 ⟨fun vs H Q E z=>F.len vs H Q E (h _ _ _ _ z),fun A outer s H args us vs Q E b d c r z=>F.run A outer s H args us vs Q E b d c r (h _ _ _ _ z)⟩
inductive C1k(e CR:Addr)(sp1 sp2:Sp)(vs:List V)(H:Hp)(Q:VK)(_:XK):Prop
 |mk(c v a b xs ys x) (ex:Exa)(_:vs=[.ref c,.ref x])(_:U5 e H c v a b xs ys)(_:ExV CR sp1 sp2 ex)(_:ex.At H x)(_:∀d,C9 H d ->Q (.int (A2x (ex.L-v.r+1) (v.l-v.r+1))) d)
def B7a{f n CB B CW CR CE t g2:Addr}(D:Def K Y "finest_power" Q15 A4k f fd)(C:A3k P w K Y Z n CB B CW cw){sp1 sp2:Sp}(g:ExM P w K Y Z CR t g2 s r sp1 sp2)(O:Own Y):sI P w K Y Z 5 f fd Q15 (C1k n CR sp1 sp2):=by
 refine okY D.F C5u ?_
 rintro _ _ _ _ H _ Q E l j⟨c,v,a,b,xs,ys,x,ex,rfl,q,m,i,k⟩
 obtain⟨F,u,p,gL,z⟩:=C.low
 refine⟨_,(A3 (A7 (G9 (A2r rfl) (by rfl) O.max_ jQ (A0 (D0 V8 (D0 Y4 (Y6 (pv 1) g.cl g.m1 g.g1 l g.b1 .nil j) (C7 (pv 0) rfl)) A4) (A0 (Y6 (pv 0) C.c.cl p gL l z .nil j) A1))))),?_⟩
 obtain⟨I,fs,y,o,_⟩:=m.ins _ _ i
 refine⟨rfl,y,o,m.first _ _ _ _ i fun A h=>?_⟩
 have d:=q.same h
 obtain⟨⟨G,e⟩,_,_⟩:=id d
 exact⟨rfl,e,C.c.cl,C.c.n_room,A0f,rfl,e,A0b,c,v.r,v.y,v.l,v.m,a,b,_,_,rfl,d,_,_,rfl,k A h⟩
inductive B1c(f d e CR:Addr)(sp1 sp2:Sp)(vs:List V)(H:Hp)(Q:VK)(E:XK):Prop
 |mk(c v a b xs ys x) (ex:Exa) (s i:Int)(_:vs=[.ref c,.int s,.ref x,.int i])(_:U5 d H c v a b xs ys)(_:v.Ok)(_:xs.length<=900)(_:ExV CR sp1 sp2 ex)(_:ex.At H x)(_:ex.okq (v.fin ex.L))(_:0<=ex.wh (v.fin ex.L))(_:ex.wh (v.fin ex.L)<A8 v.r)(_:0<=s)(_:s<=1)(_:V9 f d e H c v b xs ys (A6s v s (ex.wh (v.fin ex.L)) (ex.pt (v.fin ex.L)) ex.L (v.fin ex.L) i) Q E)
def B5h{f f1 f2 f3 f4 f5 f6 f7 f8 M O CB CT CW CR CE g1 g2:Addr}{sp1 sp2:Sp}(D:Def K Y "settled" Q14 A2b f fd)(dA:Def K Y "finest_power" Q15 A4k f1 yz)(dB:sI P w K Y Z 5 f1 yz Q15 (C1k O CR sp1 sp2))(dC:Def K Y "nearest_to" Q31 A8x f2 yy)(dE:sI P w K Y Z 3 f2 yy Q31 (C1p M))(dF:Def K Y "neighbour" Q17 A2h f3 yx)(dG:sI P w K Y Z 3 f3 yx Q17 (A5t O))(dH:Def K Y "within_room" Q21 B0c f4 yw)(dJ:sI P w K Y Z 3 f4 yw Q21 (B9f M O))(dL:Def K Y "is_beyond" Q9 A6w f5 yu)(dM:sI P w K Y Z 2 f5 yu Q9 (B3m M O))(dN:Def K Y "burst" Q5 B8f f6 yt)(dP:sI P w K Y Z 4 f6 yt Q5 (D5k M O))(dQ:Def K Y "signals_of_rest" Q26 A8q f7 yr)(dS:sI P w K Y Z 1 f7 yr Q26 B4w)(dU:Def K Y "signals_of_lead" Q27 A8y f8 yq)(dW:sI P w K Y Z 1 f8 yq Q27 (B4x O))(C:A3k P w K Y Z O CB CT CW cw)(T:ExM P w K Y Z CR g1 g2 zd zc sp1 sp2)(N:Num K Y M):sI P w K Y Z 6 f fd Q14 (B1c M O CT CR sp1 sp2):=by
 refine okZ D.F scSettled ?_
 rintro _ _ _ s H _ Q E A y⟨c,v,a,b,xs,ys,x,ex,r,i,rfl,hc,ok,lx,X,ra,q0,yh,xz,s0,s1,k⟩
 obtain⟨fR,ze,mR,gR,bR⟩:=C.raised
 refine⟨_,(A2 (C8 (psz (i:=4) scSettled.nd (B7 dA dB A y (A0 (pv 0) (A0 (pv 2) A1))))) (A2 (C8 (psz (i:=5) scSettled.nd (A2z (pv 2) T.cl T.m2 T.g2 A T.b2 .nil y (A0 (pv 4) A1)))) (A2 (C8 (D3 (B5 D5 (G7 A0d (pv 5) A4 (fun _ _=>rfl)) A4 B8) (A3 (psz (i:=6) scSettled.nd (B7 dC dE A y (A0 (pv 3) (A0 (pv 1) (A0 (G7 A0d (pv 5) A4 (fun _ _=>rfl)) (A0 (pv 4) A1))))))) (A3 (psz (i:=6) scSettled.nd (B7 dH dJ A y (A0 (pv 0) (A0 (pv 1) (A0 (B7 dF dG A y (A0 (pv 0) (A0 (pv 1) (A0 (pv 5) A1)))) (A0 (pv 4) A1))))))))) (A2 (C8 (D3 (V3 (B7 dL dM A y (A0 (pv 0) (A0 (pv 6) A1)))) (A2 (J9 (A2z (pv 0) C.c.cl mR gR A bR .nil y (A0 (G8 (A0 A9 (A0 A9 (A0 A9 A1)))) A1))) (A3 (A7 (B7 dN dP A y (A0 (pv 0) (A0 (pv 1) A1)))))) C0)) (A2 (C8 (psz (i:=7) scSettled.nd (B7 dQ dS A y (A0 (G7 A0d (pv 5) A4 (fun _ _=>rfl)) (A0 (V6 A5n (C7 (pv 6) rfl) (pv 3) B8) A1))))) (A2 (C8 (J9 (A2z (pv 0) C.c.cl mR gR A bR .nil y (A0 (D0 A8n (pv 7) (B7 dU dW A y (A0 (pv 0) (A0 (Y6 (pv 2) T.cl T.m1 T.g1 A T.b1 .nil y) (A0 (G7 A0d (pv 5) A4 (fun _ _=>rfl)) A1))))) A1)))) (A3 (A7 (pv 6))))))))),?_⟩
 have wr:=And.intro yh xz
 unfold A6s at k
 refine⟨fun g n=>C9 H n/\g=[sr c,si r,sr x,si i,si (v.fin ex.L),none,none,none],?_,?_⟩
 . exact⟨c,v,a,b,xs,ys,x,ex,rfl,hc,X,ra,fun n U=>⟨U,rfl⟩⟩
 rintro g H1 ⟨t1,rfl⟩
 have yp:=hc.same t1
 have W:=X.same _ _ _ ra t1
 generalize v.fin ex.L=q at*
 generalize yn:ex.wh q=wh at*
 generalize yo:ex.pt q=pt at*
 refine⟨fun g n=>∃p,C9 H1 n/\n p=some (.tup [.int wh,.int pt])/\g=[sr c,si r,sr x,si i,si q,sr p,none,none],?_,?_⟩
 . obtain⟨dr,fs,er,_,G⟩:=X.ins _ _ W
   refine⟨rfl,er,G,X.at_ _ _ _ _ _ W q0 fun p n U np ep=>⟨p,U,?_,rfl⟩⟩
   rw[yn,yo] at ep
   exact ep
 rintro g H2 ⟨p,t2,hp,rfl⟩
 have J:=yp.same t2
 have sm:=C9g (s:=r) (pt:=pt) (q:=q) (i:=i) ok wr.1 wr.2
 refine⟨fun g n=>∃m,C9 H2 n/\H2 m=none/\J0 M n m ⟨.plain,r,(A1t v r wh pt q i).1,(A1t v r wh pt q i).2⟩/\g=[sr c,si r,sr x,si i,si q,sr p,sr m,none],?_,?_⟩
 . refine⟨rfl,rfl,SqT.of hp,D9 (j:=1) rfl,rfl,rfl,G5 (fun h=>?_) (fun h=>?_)⟩
   . have h:pt=0:=by injection h
     refine⟨rfl,rfl,SqT.of hp,D9 (j:=0) rfl,i,r,wh,q,rfl,fun m n nm U t=>⟨m,U,nm,?_,rfl⟩⟩
     unfold A1t
     rw[aC h]
     exact t
   . have h:¬pt=0:=fun z=>h (aM V.int z)
     refine⟨c,v,a,b,xs,ys,p,r,wh,pt,rfl,J,hp,fun H3 s3=>?_⟩
     refine⟨c,v,a,b,xs,ys,r,_,q,rfl,J.same s3,ok,fun m n nm U t=>⟨m,s3.trans U,s3.free nm,?_,rfl⟩⟩
     unfold A1t
     rw[aA h]
     exact t
 rintro g H3 ⟨m,t3,nm,t,rfl⟩
 have I:=J.same t3
 have R:=(t1.trans t2).trans t3
 have yi:m≠c:=fun z=>by
   obtain⟨⟨dx,e⟩,_,_⟩:=J
   rw[z,e] at nm
   cases nm
 obtain⟨⟨dx,e3⟩,_,_⟩:=id I
 generalize hf:(A1t v r wh pt q i).1=fg at*
 generalize hg:(A1t v r wh pt q i).2=B at*
 refine⟨fun g n=>n=H3/\A0j v.m fg B=false/\g=[sr c,si r,sr x,si i,si q,sr p,sr m,none],?_,?_⟩
 . refine⟨c,v,a,b,xs,ys,m,_,rfl,I,t,sm,rfl,?_⟩
   cases e:A0j v.m fg B with
   |false=>exact V4 ⟨rfl,rfl,rfl⟩
   | true=>
     rw[e,aC rfl] at k
     refine Y9 ⟨rfl,e3,A0t,C6 (by decide),fun l nl=>?_⟩
     have u:=C9.upd (o:= .lst [.str "burst",.str "off",.str "cut"]) nl
     refine⟨c,v.r,v.y,v.l,v.m,a,b,xs,ys,.ref l,rfl,I.same u,by lia,.inl ⟨l,Q54,rfl,A6,by decide,D6u,fun hn a' H4 x4 G ct=>?_,fun z hz a' d H4 x4 G ct nd ed=>?_⟩⟩
     . refine⟨c,v,a',b,_,ys,r,rfl,ct,ok,s0,s1,fun m' H5 s5 xx=>k.1 hn m' a' H5 (B9x ((R.trans u).free G)) (((Exc.of (R.trans u)).trans x4).trans (.of s5)) (U5.same ct s5) xx⟩
     . exact k.2 z hz a' d H4 (B9x ((R.trans u).free G)) ((Exc.of (R.trans u)).trans x4) ct ed
 rintro g H4 ⟨rfl,e,rfl⟩
 rw[e,aA aB] at k
 refine⟨fun g n=>∃l,C9 H4 n/\n l=some (.lst ((A2u pt (decide (B>i))).map V.str))/\g=[sr c,si r,sr x,si i,si q,sr p,sr m,sr l],?_,?_⟩
 . obtain⟨dn,en⟩:=id t
   exact⟨rfl,rfl,SqT.of (t3 _ _ hp),D9 (j:=1) rfl,rfl,en,N.cl,N.n4,A0y,pt,_,rfl,fun l nl=>⟨l,C9.upd nl,A6,rfl⟩⟩
 rintro g H5 ⟨l,F,hl,rfl⟩
 refine⟨fun g n=>hit ys (A2u pt (decide (B>i))++A4f v.l ex.L pt)=none/\∃a',H a'=none/\Exc c H n/\U5 O n c v a' b (V7 (xs++(A2u pt (decide (B>i))++A4f v.l ex.L pt))) ys/\J0 M n m ⟨.plain,r,fg,B⟩/\g=[sr c,si r,sr x,si i,si q,sr p,sr m,sr l],?_,?_⟩
 . have xu:=X.same _ _ _ W ((t2.trans t3).trans F)
   obtain⟨dr,fs,er,nf,_⟩:=X.ins _ _ xu
   have xy:=I.same F
   refine⟨rfl,F _ _ e3,A0t,rfl,er,nf,X.first _ _ _ _ xu fun H6 t6=>?_⟩
   generalize ex.L=f at*
   refine⟨rfl,rfl,SqT.of ((F.trans t6) _ _ (t3 _ _ hp)),D9 (j:=1) rfl,c,v,a,b,xs,ys,f,pt,rfl,xy.same t6,fun l2 yk=>?_⟩
   have u2:=C9.upd (o:= .lst ((A4f v.l f pt).map V.str)) yk
   have rl:=B3e (pt:=pt) (cut:=decide (B>i)) (l:=v.l) (L:=f)
   rw[aG] at rl
   refine⟨l,l2,_,_,rfl,rfl,(t6.trans u2) _ _ hl,A6,C6 (by rw[aP,aP];lia),fun l3 yj=>?_⟩
   have u3:=C9.upd (o:= .lst ((A2u pt (decide (B>i))).map V.str++(A4f v.l f pt).map V.str)) yj
   have tB:=(t6.trans u2).trans u3
   have xv:=(t.same F).same tB
   obtain⟨zb,za⟩:=id xv
   have keep:∀{n:Hp},Exc c _ n ->J0 M n m ⟨.plain,r,fg,B⟩:=fun x7=>⟨zb,x7 _ _ za yi⟩
   refine⟨c,v.r,v.y,v.l,v.m,a,b,xs,ys,.ref l3,rfl,(xy.same tB),by lia,.inl ⟨l3,A2u pt (decide (B>i))++A4f v.l f pt,rfl,by rw[A6,cL],by rw[aG];lia,B7m,fun hn a' H8 x8 G ct=>?_,fun z hz a' d H8 x8 G ct nd ed=>?_⟩⟩
   . exact⟨hn,a',(R.trans (F.trans tB)).free G,(Exc.of (R.trans (F.trans tB))).trans x8,ct,keep x8,rfl⟩
   . exact k.2 z hz a' d H8 (B9x ((R.trans (F.trans tB)).free G)) ((Exc.of (R.trans (F.trans tB))).trans x8) ct ed
 rintro g H6 ⟨hn,a',ym,x6,ct,xw,rfl⟩
 exact k.1 hn m a' H6 (B9x ym) x6 ct xw
def U7x(CR:Addr)(t a n L:Int):Exa:=⟨fun H x=>A6m CR H x t a n,L,fun q=>whI t a (n-q),fun q=>ptI t a (n-q),fun q=> -1500<=n-q/\n-q<=1500⟩
def V1w{CR:Addr}{t a n L:Int}(d:Sz t)(b:Sz a)(i:A0c t a (n-L)):ExV CR (A9f CR) (C1m CR) (U7x CR t a n L) where
 same:=fun _ _ _ h s=>A6m.same h s
 ins:=fun _ _ h=>by
   obtain⟨m,e⟩:=h
   exact⟨m,_,e,A7h,A6f⟩
 first:=fun H x Q E h k=>⟨x,t,a,n,rfl,h,d,b,fun f c s ld=>by
   have l:f=L:=by
     have:=C2j (show 0<a by have:=b.1;lia) ld i
     lia
   rw[l]
   exact k c s⟩
 at_:=fun H x q Q E h ok k=>⟨x,t,a,n,q,rfl,h,d,b,ok.1,ok.2,fun p c s g j=>k p c s g j⟩
def V1d{CR CE d g2:Addr}(a:D9c P w K Y Z CR d g2 c b)(R:B0j K Y CR CE):ExM P w K Y Z CR d g2 c b (A9f CR) (C1m CR):=⟨R.cl,a.m1,a.g1,a.b1,a.m2,B0.lift (by decide) a.g2,a.b2⟩
def C7c{l m j CR:Addr}(h:A1r l m j CR vs H Q E):B1c l m j CR (A9f CR) (C1m CR) vs H Q E:=by
 obtain⟨c,v,a,b,xs,ys,x,t,z,n,L,o,i,rfl,y,ok,u,q,e,f,g,s,r,s0,p,k⟩:=h
 have d:=C3n (s2:=n-v.fin L) e f g ok.r1 (by
   unfold Cv.fin A2x
   split<;>lia)
 exact⟨c,v,a,b,xs,ys,x,U7x CR t z n L,o,i,rfl,y,ok,u,V1w e f g,q,⟨s,r⟩,d.1,d.2,s0,p,k⟩
def A5y(t s:Int):Prop:=A8 (-s)<=t*A8 s/\t*A8 s<100*A8 (-s)
def A4c(t s wh:Int):Prop:=0<=wh/\wh*wh*A8 (-s)<=t*A8 s/\t*A8 s<(wh+1)*(wh+1)*A8 (-s)
def D0p(t s wh:Int):Int:=if wh*wh*A8 (-s)=t*A8 s then 0 else 1+(if decide ((2*wh+1)*(2*wh+1)*A8 (-s)<=4*(t*A8 s))=true then 1 else 0)+(if decide ((2*wh+1)*(2*wh+1)*A8 (-s)<4*(t*A8 s))=true then 1 else 0)
structure V4a(t s wh:Int):Prop where
 o1:IntMulOk t (A8 s)
 o2:IntMulOk wh wh
 o3:IntMulOk (wh*wh) (A8 (-s))
 o4:IntMulOk (wh+1) (wh+1)
 o5:IntMulOk ((wh+1)*(wh+1)) (A8 (-s))
 o6:IntMulOk (2*wh+1) (2*wh+1)
 o7:IntMulOk ((2*wh+1)*(2*wh+1)) (A8 (-s))
def G0q{s:Int}(h:s<=0):A8 s=1:=by unfold A8;rw[show s.toNat=0 by lia];rfl
def C6p{t s r:Int}(j:0<t)(m:A5y t s)(l:A5y t r)(d:(r-s) % 2=0):r<=s:=by
 apply aX
 intro h
 have k:s<=r:=by lia
 have c:=A2j k
 have g:A8 2<=A8 (r-s):=Z7 (by lia)
 have a:A8 2=100:=by decide+kernel
 rw[a] at g
 have i:=D7 (-s)
 have b:=D7 (-r)
 have e:t*A8 r*A8 (-s)=t*A8 s*A8 (-r)*A8 (r-s):=by
   calc t*A8 r*A8 (-s)=t*(A8 r*A8 (-s)):=by ac_rfl
     _=t*(A8 s*A8 (-r)*A8 (r-s)):=by rw[c]
     _=t*A8 s*A8 (-r)*A8 (r-s):=by ac_rfl
 have f:t*A8 r*A8 (-s)<100*A8 (-r)*A8 (-s):=cE l.2 i
 have d:0<t*A8 s:=bT j (D7 s)
 have q:t*A8 s*A8 (-r)*100<=t*A8 s*A8 (-r)*A8 (r-s):=cB g (bB (bT d b))
 have p:A8 (-s)*A8 (-r)<=t*A8 s*A8 (-r):=bC m.1 (bB b)
 have n:100*A8 (-r)*A8 (-s)=A8 (-s)*A8 (-r)*100:=by ac_rfl
 have o:A8 (-s)*A8 (-r)*100<=t*A8 s*A8 (-r)*100:=bC p (by decide)
 rw[e,n] at f
 exact absurd (fA f (Int.le_trans o q)) (Int.lt_irrefl _)
def D9d{t n f g:Int}(c:0<t)(e:A5y t (n-2*f))(d:A5y t (n-2*g)):f=g:=by
 have a:=C6p c e d (by lia)
 have b:=C6p c d e (by lia)
 lia
def SzQ(t:Int):Prop:=1<=t/\t<10^61
def C5x{t s:Int}(c:SzQ t)(h:A5y t s): -61<=s/\s<=1:=by
 refine⟨?_,?_⟩
 . apply aX
   intro d
   have g:A8 61<=A8 (-s):=Z7 (by lia)
   have b:A8 61=10^61:=by decide+kernel
   have a:=h.1
   rw[G0q (by lia:s<=0),fV] at a
   rw[b] at g
   have:=c.2
   lia
 apply aX
 intro d
 have g:A8 2<=A8 s:=Z7 (by lia)
 have e:A8 2=100:=by decide+kernel
 have a:=h.2
 rw[G0q (by lia: -s<=0)] at a
 have:1*A8 s<=t*A8 s:=bC c.1 (bB (D7 _))
 lia
def A4w{s:Int}(h:s<=200):(A8 s).natAbs<2^700:=by
 unfold A8
 rw[eW]
 exact aW (bH (by decide) (show s.toNat<=200 by lia)) (by decide+kernel)
def SzQ.small{t:Int}(h:SzQ t):t.natAbs<2^203:=by
 have e:(10^61:Int).natAbs<2^203:=by decide+kernel
 have:=h.1;have:=h.2
 lia
def B7e{k:Nat}(h:k<=1000):(2:Nat)^k<=2^1000:=bH (by decide) h
def C6e{t s:Int}(a:SzQ t)(h:s<=200):(t*A8 s).natAbs<2^903:=by
 rw[kU]
 exact aQ (Nat.mul_lt_mul'' a.small (A4w h)) (Nat.le_of_eq (cN 2 203 700).symm)
def D1c{t s wh:Int}(f:SzQ t)(g:s<=200)(r:A4c t s wh):wh.natAbs<2^452:=by
 obtain⟨d,h,_⟩:=r
 obtain⟨n,rfl⟩:=aV d
 rw[eW]
 have hh:=C6e f g
 have e:(1:Int)<=A8 (-s):=D7 (-s)
 have a:(n:Int)*n*1<=(n:Int)*n*A8 (-s):=cB e (fC d d)
 have b:(n:Int)*n<=t*A8 s:=by lia
 have c:n*n<2^903:=by
   have:((n*n:Nat):Int)<=t*A8 s:=b
   lia
 apply aX
 intro z
 have:2^452*2^452<=n*n:=jS (by lia) (by lia)
 rw[<-cN] at this
 have q:(2:Nat)^903<=2^(452+452):=bH (by decide) (by decide)
 exact absurd (aQ c (bS q this)) (eG _)
def G1j{a:Int}{k:Nat}(h:a.natAbs<2^k):(a*a).natAbs<2^(k+k):=by
 rw[kU,cN]
 exact Nat.mul_lt_mul'' h h
def J5p{t s wh:Int}(f:SzQ t)(k: -200<=s)(g:s<=200)(r:A4c t s wh):V4a t s wh:=by
 have j:=D1c f g r
 have i:=r.1
 have l:(A8 (-s)).natAbs<2^1000:=aQ (A4w (by lia)) (B7e (by decide))
 have d:(2:Nat)^454=4*2^452:=by rw[show 454=2+452 from rfl,cN]
 have e:∀{a:Int},a.natAbs<2^454 ->a.natAbs<2^1000:=fun h=>aQ h (B7e (by decide))
 have b:∀{a:Int},a.natAbs<2^454 ->(a*a).natAbs<2^1000:=fun h=>aQ (G1j h) (B7e (by decide))
 have c:wh.natAbs<2^454:=by lia
 have b2:(wh+1).natAbs<2^454:=by lia
 have b3:(2*wh+1).natAbs<2^454:=by lia
 exact⟨A0x (aQ f.small (B7e (by decide))) (aQ (A4w g) (B7e (by decide))),A0x (e c) (e c),A0x (b c) l,A0x (e b2) (e b2),A0x (b b2) l,A0x (e b3) (e b3),A0x (b b3) l⟩
def D4e{t s a b:Int}(d:A4c t s a)(c:A4c t s b):b<=a:=by
 apply aX
 intro h
 have p:=D7 (-s)
 have q:(a+1)*(a+1)<=b*b:=fT (by lia) (by lia) (by have:=d.1;lia) c.1
 have e:(a+1)*(a+1)*A8 (-s)<=b*b*A8 (-s):=bC q (bB p)
 have:=d.2.2
 have:=c.2.1
 lia
def J2a{t s a b:Int}(d:A4c t s a)(c:A4c t s b):a=b:=Int.le_antisymm (D4e c d) (D4e d c)
abbrev A6q:Stmt:=(U2 (top 27) 0)
structure D8x(K:Frag)(mg:Str ->Option Value)(CR CE:Addr):Prop where
 g:mg "Root"=some (.ref CR)
 ge:mg "Exact"=some (.ref CE)
 cl:Cls K CR
 n_top:A0e K CR "top"
 n_power:A0e K CR "power"
 ca:findIn K (.ref CR) "__class__"=some (some (.builtin "object.__class__"))
 sn:specialIn K (.builtin "object.__class__") "__get__"=some (some (.builtin "getset_descriptor.__get__"))
 tk:takesIn K (.builtin "object.__class__")=some true
 ob:mroIn K CR (.type "object")=some true
 up:kitOne K (.ref CR) (.ref CE)=some true
def C5w(t n:V):List (Str×V):=Z9 "power" n (Z9 "top" t [])
def C3b(t n:V)(x:Str):(C5w t n).lookup x=if x="power" then some n else if x="top" then some t else none:=by
 unfold C5w
 rw[U0,U0]
 rfl
def D4z(t n:V):(C5w t n).lookup ("top":Str)=some t:=by rw[C3b,aA (by decide+kernel),aC rfl]
def C0n(t n:V):(C5w t n).lookup ("power":Str)=some n:=by rw[C3b,aC rfl]
def C4m(t n:V):(C5w t n).lookup ("first":Str)=none:=by rw[C3b,aA (by decide+kernel),aA (by decide+kernel)]
def D6e(t n:V):(C5w t n).lookup ("at":Str)=none:=by rw[C3b,aA (by decide+kernel),aA (by decide+kernel)]
def B5r(CR:Addr)(H:Hp)(x:Addr)(t n:Int):Prop:=∃a,H x=some (.ins CR a (C5w (.int t) (.int n)))
def B5r.same{CR:Addr}{t n:Int}(h:B5r CR H x t n)(s:C9 H b):B5r CR b x t n:=by
 obtain⟨a,e⟩:=h
 exact⟨a,s _ _ e⟩
inductive C4p(CR:Addr)(vs:List V)(H:Hp)(Q:VK)(_:XK):Prop
 |mk(p b:Addr) (t n:V)(_:vs=[.ref p,t,n])(_:H p=some (.ins CR b []))(_:∀a,a p=some (.ins CR b (C5w t n)) ->Exc p H a ->Q .non a)
def J4m:B9 Q32 Q32 (A5 A6q):=scK
def D9e{f CR CE:Addr}(F:D8y K "__init__" "Root.__init__" A6q t f fd)(R:D8x K Y CR CE):sI P w K Y Z 1 f fd Q32 (C4p CR):=by
 refine F.okE J4m (fun vs H Q E h=>?_) (fun X m A outer s H vs Q E i r q h=>?_)
 . obtain⟨p,j,a,c,rfl,_⟩:=h
   rfl
 subst i
 obtain⟨p,j,a,c,rfl,g,k⟩:=h
 refine⟨_,(A2 (A0w (pv 0) (pv 1) rfl) (A3 (A0w (pv 0) (pv 2) rfl))),?_⟩
 have l:∀(fs:List (Str×V)) (f:Str) (v:V) (n:Nat),fs.length<=n ->(Z9 f v fs).length<=n+1:=fun fs f v n h=>bS (A2q f v fs) (cY h)
 refine⟨rfl,g,R.cl,R.n_top,(by show 0<1000;decide),rfl,A6,R.cl,R.n_power,aW (l _ _ _ 0 (aO _)) (by decide),?_⟩
 refine k _ A6 fun b o e d=>?_
 rw[D8 d,D8 d]
 exact e
inductive A9a(CR:Addr)(vs:List V)(H:Hp)(Q:VK)(_:XK):Prop
 |mk(x t n)(_:vs=[.ref x])(_:B5r CR H x t n)(_:SzQ t)(_: -900<=n)(_:n<=900)(_:∀f a,C9 H a ->A5y t (n-2*f) ->Q (.int f) a)
inductive C7x(CR:Addr)(vs:List V)(H:Hp)(Q:VK)(_:XK):Prop
 |mk(x t n p)(_:vs=[.ref x,.int p])(_:B5r CR H x t n)(_:SzQ t)(_: -200<=n-2*p)(_:n-2*p<=200)(_:∀wh q a,C9 H a ->H q=none ->A4c t (n-2*p) wh ->a q=some (.tup [.int wh,.int (D0p t (n-2*p) wh)]) ->Q (.ref q) a)
structure J7u(P:Program)(w:World)(K:Frag)(mg:Str ->Option Value)(base:Heap)(CR fI:Addr)(fdI:FuncData)(d0:Value)(gP:List Value ->List Value ->List Value)(vP:List V ->List V ->List V):Prop where
 m:Mk K CR fI
 g:sI P w K mg base 1 fI fdI Q32 (C4p CR)
 b3:Binds K fdI Q32 []
 b2:Binds K fdI Q32 [d0]
 r0:Y3 (.int 0) d0
 kP:G5d K fdI Q32 ["power"] gP vP
 eP:∀x a c,vP [x,a] [c]=[x,a,c]
structure U8z(P:Program)(w:World)(K:Frag)(mg:Str ->Option Value)(base:Heap)(CR f1 f2:Addr)(fd1 fd2:FuncData):Prop where
 m1:B3j K CR "first" f1
 g1:sI P w K mg base 4 f1 fd1 ["self"] (A9a CR)
 b1:Binds K fd1 ["self"] []
 m2:B3j K CR "at" f2
 g2:sI P w K mg base 5 f2 fd2 Q16 (C7x CR)
 b2:Binds K fd2 Q16 []
def U7e{CR x a:Addr}{H:Hp}{Q:VK}{t n:Int}(d:H x=none)(f:H a=none)(g:a≠x)(k:∀b,C9 H b ->B5r CR b x t n ->Q .non b):
   C4p CR [.ref x,.int t,.int n] (upd (upd H a (.own x)) x (.ins CR a [])) Q E:=
 ⟨x,a,_,_,rfl,A6,fun b e s=>k b (fun c o z=>s c o (by rw[D8 (D6 z d),D8 (D6 z f)];exact z) (D6 z d)) ⟨a,e⟩⟩
abbrev B8q:Stmt:=(top 30)
def J9q{n g:Nat}(a:1<=g):n<((g+n/g)/2+1)*((g+n/g)/2+1):=by
 have q:n<g*(n/g+1):=by
   have:=Nat.div_add_mod n g
   have:=Nat.mod_lt n a
   rw[kB,Nat.mul_one]
   lia
 generalize n/g=d at q
 have b:g+(d+1)<=2*((g+d)/2+1):=by lia
 generalize (g+d)/2+1=c at b
 have j:(g+(d+1))*(g+(d+1))<=2*c*(2*c):=jS b b
 have s2:4*(g*(d+1))<=(g+(d+1))*(g+(d+1)):=by
   generalize d+1=e
   rcases Nat.le_total g e with h|h
   . obtain⟨k,rfl⟩:=Nat.exists_eq_add_of_le h
     have f:(g+(g+k))*(g+(g+k))=4*(g*(g+k))+k*k:=by
       simp only[kB,kT]
       have:=fo k g
       lia
     lia
   . obtain⟨k,rfl⟩:=Nat.exists_eq_add_of_le h
     have f:(e+k+e)*(e+k+e)=4*((e+k)*e)+k*k:=by
       simp only[kB,kT]
       have:=fo k e
       lia
     lia
 have i:2*c*(2*c)=4*(c*c):=by
   rw[Nat.mul_mul_mul_comm]
 lia
inductive D5q(vs:List V)(H:Hp)(Q:VK)(_:XK):Prop
 |mk(n:Nat)(_:vs=[.int (n:Int)])(_:n<10^300)(_:∀r:Nat,r*r<=n ->n<(r+1)*(r+1) ->Q (.int (r:Int)) H)
def scWRoot:B9 ["whole","guess","better"] ["whole"] (A5 B8q):=scK
def G0s(D:Def K Y "whole_root" ["whole"] B8q f fd)(R:Def K Y "ten_to" ["count"] A1w J s)(O:sI P w K Y Z 2 J s ["count"] A1s)(N:Def K Y "whole_lead" ["whole"] B0w I r)(M:sI P w K Y Z 3 I r ["whole"] B6x):sI P w K Y Z 4 f fd ["whole"] D5q:=by
 refine okY D.F scWRoot ?_
 rintro _ _ _ _ H _ Q E B A⟨n,rfl,x,k⟩
 refine⟨_,(A2 (D3 (B5 D5 (pv 0) A4 B8) (A3 (A7 A4)) C0) (A2 (psz (i:=1) scWRoot.nd (B7 R O B A (A0 (D0 V8 (D0 U3 (B7 N M B A (A0 (pv 0) A1)) A4) A4) A1))) (A2 (psz (i:=2) scWRoot.nd (D0 U3 (D0 V8 (pv 1) (D0 U3 (pv 0) (pv 1))) A4)) (A2 (B2r iE (B5 B0k (pv 2) (pv 1) B8) (A2 (psz (i:=1) scWRoot.nd (pv 2)) (A3 (psz (i:=2) scWRoot.nd (D0 U3 (D0 V8 (pv 1) (D0 U3 (pv 0) (pv 1))) A4))))) (A3 (A7 (pv 1))))))),?_⟩
 have t:(0:Int)<2/\(2:Int).natAbs.log2<9000:=⟨by decide,by decide+kernel⟩
 refine⟨rfl,rfl,G5 (fun p=>?_) (fun p=>?_)⟩
 . have e:n=0:=by
     have:(n:Int)=0:=by injection p
     lia
   subst e
   exact k 0 (aO _) (by decide)
 have C:1<=n:=by
   apply aX
   intro z
   exact p (by rw[show n=0 by lia];rfl)
 have y:∀{g:Nat},1<=g ->g<2^1000 ->0<(g:Int)/\(g:Int).natAbs.log2<9000:=fun W G=>⟨by lia,bY (Z3 (k:=1000) (by rw[eW];exact G) (by decide)) (by decide)⟩
 refine⟨n,rfl,C,bY x (hU (by decide) (by decide)),fun L T L2=>?_⟩
 have U:L<300:=(iC (by decide:1<10)).mp (aW T x)
 refine⟨t,L/2+1,rfl,by lia,?_⟩
 have o:1<=10^(L/2+1):=fJ (by decide)
 have g2:10^(L/2+1)<2^1000:=aW (bH (by decide) (show L/2+1<=200 by lia)) (by decide+kernel)
 have g3:n<(10^(L/2+1)+1)*(10^(L/2+1)+1):=by
   have a:10^(L+1)<=10^(L/2+1)*10^(L/2+1):=by
     rw[<-cN]
     exact bH (by decide) (by lia)
   have b:10^(L/2+1)*10^(L/2+1)<=(10^(L/2+1)+1)*(10^(L/2+1)+1):=jS (iI _) (iI _)
   lia
 refine⟨y o g2,t,?_⟩
 refine B3b (fun l v=>v=H/\∃g:Nat,1<=g/\g<2^1000/\n<(g+1)*(g+1)/\l=[si (n:Int),si (g:Int),si (((g+n/g)/2:Nat):Int)]) (fun l _=>match l with| [_,some (.int c),_]=>c.toNat|_=>0) ?_ ?_ ?_
 . exact⟨rfl,10^(L/2+1),o,g2,g3,rfl⟩
 . rintro l v ⟨rfl,g,o,g2,g3,rfl⟩
   refine⟨rfl,G5 (fun j=>?_) (fun m=>?_)⟩
   . have j:(g+n/g)/2<g:=eB.mp j
     have u:1<=(g+n/g)/2:=by
       rcases(by lia:g=1\/2<=g) with rfl|h
       . rw[Nat.div_one];lia
       . clear j
         generalize n/g=d
         lia
     have b3:=J9q (n:=n) o
     generalize (g+n/g)/2=b at j u b3
     refine⟨y u (bY j g2),t,⟨rfl,b,u,bY j g2,b3,rfl⟩,?_⟩
     show(b:Int).toNat<(g:Int).toNat
     lia
   . have m:g<=(g+n/g)/2:=by
       have:¬((g+n/g)/2<g):=fun z=>m (eB.mpr z)
       lia
     refine k g ?_ g3
     have:g<=n/g:=by lia
     exact(iZ (by lia)).mp this
 exact fun l v Q1 X F=>A5r fun _=>A5r fun _=>A9u fun _=>B6b fun _ ⟨e,q⟩=>⟨e,F _ _ q⟩
abbrev D4n:Stmt:=(U2 (top 27) 2)
abbrev B2k:Stmt:=(U2 (top 27) 1)
def D3q{t:Int}(h:SzQ t):∃n:Nat,t=(n:Int)/\1<=n/\n<10^61:=by
 obtain⟨n,rfl⟩:=aV (show 0<=t by have:=h.1;lia)
 have:=h.1;have:=h.2
 exact⟨n,rfl,by lia,by lia⟩
def J2r{h m:Int}(a:0<h):A4e (2*h) m=1+(if decide (m<=4*h)=true then 1 else 0)+(if decide (m<4*h)=true then 1 else 0):=by
 unfold A4e
 rw[aT (by lia:0<2*h),show 2*(2*h)=4*h by lia]
 rfl
def C0y{t L:Nat}{n f:Int}(b:10^L<=t)(t2:t<10^(L+1))(e:f=((L:Int)+n)/2):A5y t (n-2*f):=by
 have c:n-2*f= -(L:Int)\/n-2*f=1-(L:Int):=by omega
 have a:∀u v:Nat,(u=0/\(v=L\/v+1=L))\/(u=1/\v=0/\L=0) ->10^v<=t*10^u/\t*10^u<100*10^v:=by
   rintro u v (⟨rfl,rfl|rfl⟩|⟨rfl,rfl,rfl⟩)
   . rw[eA] at t2
     omega
   . rw[eA] at b
     rw[eA,eA] at t2
     omega
   . simp at b t2 ⊢
     omega
 have:=a (n-2*f).toNat (-(n-2*f)).toNat (by
   rcases c with e|e
   . rw[e]
     exact .inl ⟨jJ (by omega),.inl (by rw[Int.neg_neg];exact iJ L)⟩
   . rw[e]
     cases L with
     |zero=>exact .inr ⟨rfl,rfl,rfl⟩
     |succ j=>exact .inl ⟨jJ (by omega),.inr (by rw[show -(1-((j+1:Nat):Int))=(j:Int) by omega,iJ])⟩)
 unfold A5y A8
 exact⟨eQ.mpr this.1,eB.mpr this.2⟩
def G1c:B9 ["self"] ["self"] (A5 B2k):=scK
def D8f{f b CR CE:Addr}(F:Fun K "first" "Root.first" B2k f fd)(o:Def K Y "whole_lead" ["whole"] B0w b a)(m:sI P w K Y Z 3 b a ["whole"] B6x)(R:D8x K Y CR CE):sI P w K Y Z 4 f fd ["self"] (A9a CR):=by
 refine okY F G1c ?_
 rintro _ _ _ _ H _ Q E l i⟨x,t,n,rfl,h,j,_,_,k⟩
 refine⟨_,(A3 (A7 (D0 U3 (D0 V8 (B7 o m l i (A0 (C7 (pv 0) rfl) A1)) (C7 (pv 0) rfl)) A4))),?_⟩
 obtain⟨c,rfl,g,d⟩:=D3q j
 obtain⟨r,e⟩:=id h
 have p:(0:Int)<2/\(2:Int).natAbs.log2<9000:=⟨by decide,by decide+kernel⟩
 refine⟨rfl,e,R.cl,R.n_top,D4z _ _,c,rfl,g,bY d (hU (by decide) (by decide)),fun L q L2=>?_⟩
 exact⟨rfl,e,R.cl,R.n_power,C0n _ _,p,k _ H (C9.refl H) (C0y q L2 rfl)⟩
def scQAt:B9 Q50 Q16 (A5 D4n):=scK
def U0h{f T N M CR CE:Addr}(F:Fun K "at" "Root.at" D4n f fd)(W:Def K Y "ten_to" ["count"] A1w T G)(U:sI P w K Y Z 2 T G ["count"] A1s)(dC:Def K Y "part_of" Q24 B3h N D)(dE:sI P w K Y Z 1 N D Q24 B9a)(dF:Def K Y "whole_root" ["whole"] B8q M C)(dG:sI P w K Y Z 4 M C ["whole"] D5q)(R:D8x K Y CR CE)(O:Own Y):sI P w K Y Z 5 f fd Q16 (C7x CR):=by
 refine okY F scQAt ?_
 rintro _ _ _ _ H _ Q E u o⟨x,t,n,p,rfl,⟨dx,e⟩,s,h1,B,k⟩
 refine⟨_,(A2 (psz (i:=2) scQAt.nd (D0 Y4 (C7 (pv 0) rfl) (D0 V5 A4 (pv 1)))) (A2 (psz (i:=3) scQAt.nd (D0 V5 (C7 (pv 0) rfl) (B7 W U u o (A0 (G9 (A2r rfl) (by rfl) O.max_ jQ (A0 (pv 2) (A0 A4 A1))) A1)))) (A2 (psz (i:=4) scQAt.nd (B7 W U u o (A0 (G9 (A2r rfl) (by rfl) O.max_ jQ (A0 (A5c A2k (pv 2)) (A0 A4 A1))) A1))) (A2 (psz (i:=5) scQAt.nd (B7 dF dG u o (A0 (D0 U3 (pv 3) (pv 4)) A1))) (A2 (D3 (B5 D5 (D0 V5 (D0 V5 (pv 5) (pv 5)) (pv 4)) (pv 3) B8) (A3 (A7 (A0s (A0 (pv 5) (A0 A4 A1))))) C0) (A3 (A7 (A0s (A0 (pv 5) (A0 (B7 dC dE u o (A0 (D0 V5 A4 (pv 3)) (A0 (D0 V5 (D0 V5 (D0 V8 (D0 V5 A4 (pv 5)) A4) (D0 V8 (D0 V5 A4 (pv 5)) A4)) (pv 4)) A1))) A1)))))))))),?_⟩
 have I:2<=sizeLine:=C6 (by decide)
 have c:∀z n:Int, -(2^64)<n ->n<2^64 ->IntMulOk n z:=fun z n a b=>B1b.ok (.inl ⟨a,b⟩)
 have oT:IntMulOk t (A8 (n-2*p)):=A0x (aQ s.small (B7e (by decide))) (aQ (A4w B) (B7e (by decide)))
 refine⟨rfl,e,R.cl,R.n_power,C0n _ _,c _ _ (by decide) (by decide),rfl,e,R.cl,R.n_top,D4z _ _,_,_,rfl,(n-2*p).toNat,aM (fun z=>[V.int z]) (J3n (n-2*p)),by lia,oT,_,_,rfl,(-(n-2*p)).toNat,aM (fun z=>[V.int z]) (J3n (-(n-2*p))),by lia,?_⟩
 have v:0<A8 (-(n-2*p)):=D7 _
 have ll:(A8 (-(n-2*p))).natAbs.log2<9000:=bY (Z3 (A4w (by lia)) (by decide)) (by decide)
 have L:0<t*A8 (n-2*p):=bT (by have:=s.1;lia) (D7 _)
 have J:=C6e s B
 obtain⟨A,d⟩:=aV (bB L)
 obtain⟨lo,g⟩:=aV (bB v)
 have l:A/lo<10^300:=by
   have a:A<2^903:=by rw[d,eW] at J;exact J
   exact aW (Nat.div_le_self _ _) (bY a (by decide+kernel))
 refine⟨⟨v,ll⟩,A/lo,(by show [V.int (t*A8 (n-2*p)/A8 (-(n-2*p)))]=_;rw[d,g];rfl),l,fun r r1 X=>?_⟩
 have j:0<lo:=by lia
 have rt:A4c t (n-2*p) (r:Int):=by
   refine⟨by lia,?_,?_⟩
   . rw[d,g]
     have:=(iZ j).mp r1
     exact eQ.mpr this
   . rw[d,g]
     have:=(Nat.div_lt_iff_lt_mul j).mp X
     exact eB.mpr this
 have m:=J5p s h1 B rt
 refine⟨m.o2,m.o3,rfl,rfl,G5 (fun he=>?_) (fun y=>?_)⟩
 . have he:(r:Int)*r*A8 (-(n-2*p))=t*A8 (n-2*p):=by injection he
   refine⟨I,fun q h=>k r q _ (C9.upd h) h rt ?_⟩
   rw[A6]
   unfold D0p
   rw[aC he]
 have y:¬(r:Int)*r*A8 (-(n-2*p))=t*A8 (n-2*p):=fun z=>y (aM V.int z)
 have m0:0<(2*(r:Int)+1)*(2*(r:Int)+1)*A8 (-(n-2*p)):=bT (bT (by lia) (by lia)) v
 refine⟨c _ _ (by decide) (by decide),c _ _ (by decide) (by decide),c _ _ (by decide) (by decide),m.o6,m.o7,2*(t*A8 (n-2*p)),(2*(r:Int)+1)*(2*(r:Int)+1)*A8 (-(n-2*p)),?_,by lia,m0,I,fun q h=>k r q _ (C9.upd h) h rt ?_⟩
 . show [V.int (4*(t*A8 (n-2*p))),_]=[V.int (2*(2*(t*A8 (n-2*p)))),_]
   rw[show 2*(2*(t*A8 (n-2*p)))=4*(t*A8 (n-2*p)) by lia]
   rfl
 rw[A6,J2r L]
 unfold D0p
 rw[aA y]
def D2q:∀n:Nat,∃r:Nat,r*r<=n/\n<(r+1)*(r+1)
 |0=>⟨0,by decide,by decide⟩
 | n + 1=>by
   obtain⟨r,b,a⟩:=D2q n
   by_cases h:n+1<(r+1)*(r+1)
   . exact⟨r,by lia,h⟩
   . refine⟨r+1,by lia,?_⟩
     have:(r+1+1)*(r+1+1)=(r+1)*(r+1)+2*(r+1)+1:=by
       simp only[kT,kB]
       lia
     lia
def J5m{t s:Int}(g:1<=t):∃w,A4c t s w:=by
 obtain⟨f,c⟩:=aV (bB (bT (show 0<t by lia) (D7 s)))
 obtain⟨lo,b⟩:=aV (bB (D7 (-s)))
 have a:0<lo:=by have:=D7 (-s);lia
 obtain⟨r,e,d⟩:=D2q (f/lo)
 refine⟨r,by lia,?_,?_⟩
 . rw[c,b]
   exact eQ.mpr ((iZ a).mp e)
 rw[c,b]
 exact eB.mpr ((Nat.div_lt_iff_lt_mul a).mp d)
def whQ(t s:Int):Int:=by
 classical exact if h:∃w,A4c t s w then Classical.choose h else 0
def B2y{t s:Int}(a:1<=t):A4c t s (whQ t s):=by
 have h:=J5m (s:=s) a
 unfold whQ
 rw[dif_pos h]
 exact Classical.choose_spec h
def U0q{t s w:Int}(a:1<=t)(h:A4c t s w):whQ t s=w:=J2a (B2y a) h
def rooE(CR:Addr)(t n L:Int):Exa:=⟨fun H x=>B5r CR H x t n,L,fun q=>whQ t (n-2*q),fun q=>D0p t (n-2*q) (whQ t (n-2*q)),fun q=> -200<=n-2*q/\n-2*q<=200⟩
def V0s{CR:Addr}{t n L:Int}(a:SzQ t)(g: -900<=n)(d:n<=900)(i:A5y t (n-2*L)):ExV CR (A9a CR) (C7x CR) (rooE CR t n L) where
 same:=fun _ _ _ h s=>B5r.same h s
 ins:=fun _ _ h=>by
   obtain⟨m,e⟩:=h
   exact⟨m,_,e,C4m _ _,D6e _ _⟩
 first:=fun H x Q E h k=>⟨x,t,n,rfl,h,a,g,d,fun f b s ld=>by
   have l:f=L:=D9d (show 0<t by have:=a.1;lia) ld i
   rw[l]
   exact k b s⟩
 at_:=fun H x q Q E h ok k=>⟨x,t,n,q,rfl,h,a,ok.1,ok.2,fun wh p b s c rt j=>by
   have e:=U0q a.1 rt
   refine k p b s c ?_
   show b p=some (.tup [.int (whQ t (n-2*q)),.int (D0p t (n-2*q) (whQ t (n-2*q)))])
   rw[e]
   exact j⟩
def V0w{CR CE d g2:Addr}(a:U8z P w K Y Z CR d g2 c b)(R:D8x K Y CR CE):ExM P w K Y Z CR d g2 c b (A9a CR) (C7x CR):=⟨R.cl,a.m1,a.g1,a.b1,a.m2,a.g2,a.b2⟩
def D8c:B9 Q9 Q9 (A5 A3s):=scK
def A6g{v:Cv}{L n:Int}(ok:v.Ok)(d: -1000<=n-L)(c:n-L<=1000)(b: -400<=n)(a:n<=400): -1500<=n-v.fin L/\n-v.fin L<=1500:=by
 have:=ok.r1;have:=ok.r2;have:=ok.l1;have:=ok.l2
 unfold Cv.fin A2x
 split<;>lia
def A3e{t b s:Int}(c:Sz t)(d:Sz b)(h:A0c t b s): -1000<=s/\s<=1000:=by
 have e:=D7 1000
 refine⟨?_,?_⟩
 . apply aX
   intro f
   have z:A8 s=1:=by unfold A8;rw[show s.toNat=0 by lia];rfl
   have g:A8 1000<=A8 (-s):=Z7 (by lia)
   have a:=h.1
   rw[z,fV] at a
   have:1*A8 (-s)<=b*A8 (-s):=bC d.1 (bB (D7 _))
   have:=c.2
   lia
 apply aX
 intro f
 have z:A8 (-s)=1:=by unfold A8;rw[show(-s).toNat=0 by lia];rfl
 have g:A8 1001<=A8 s:=Z7 (by lia)
 have i:A8 1001=10*A8 1000:=by
   unfold A8
   rw[show(1001:Int).toNat=(1000:Int).toNat+1 by decide,eA,fo]
   rfl
 have a:=h.2
 rw[z,fV] at a
 have:1*A8 s<=t*A8 s:=bC c.1 (bB (D7 _))
 have:=d.2
 lia
def Z4:Sz 1:=⟨by decide,by
 have:A8 1<=A8 1000:=Z7 (by decide)
 have e:A8 1=10:=rfl
 lia⟩
def A8s{f:Int}(b:0<=f)(h:f≠0)(a:f<=10^60-1):Sz f:=by
 refine⟨by lia,?_⟩
 have:A8 60<=A8 1000:=Z7 (by decide)
 have e:A8 60=10^60:=by decide+kernel
 lia
def Z5:Nm:=⟨.none,0,0,0⟩
def A2f(v:Cv)(s i:Int):Nm:=⟨.plain,s,0,C4j (A2x i (v.l-v.r+1)) v.m⟩
def V9.same(k:V9 i j h H c v b xs ys res Q E)(s:C9 H g):V9 i j h g c v b xs ys res Q E:=
 ⟨fun f m a' a nw x=>k.1 f m a' a (D3v s nw) ((Exc.of s).trans x),fun z e a' d a nw x=>k.2 z e a' d a (D3v s nw) ((Exc.of s).trans x)⟩
def J1z(a:List Str):hit a []=none:=by
 unfold hit
 rw[jR]
 simp
def V9.calm{Q:VK}(k:V9 i f j H c v b xs ys (x,[]) Q E)(g:V7 xs=xs)(s:C9 H d)(e:U5 f H c v a b xs ys)(h:J0 i d n x):Q (.ref n) d:=
 k.1 (J1z _) n a d (V1p e) (Exc.of s) (by show U5 f d c v a b (V7 (xs++ [])) ys;rw[cP,g];exact e.same s) h
deriving instance DecidableEq for Kd
def B6v(n:Nat)(h:1<=n):∃L:Nat,10^L<=n/\n<10^(L+1):=by
 induction n using Nat.strongRecOn with
 | ind n d=>
   by_cases c:n<10
   . exact⟨0,by simpa using h,by simpa using c⟩
   . obtain⟨L,a,b⟩:=d (n/10) (by lia) (by lia)
     refine⟨L+1,?_,?_⟩
     . rw[eA];lia
     . rw[eA];lia
def B6j{n j:Nat}(d:n<10^(j+1))(c:10^j<=n):A6k (n:Int)=(j:Int)+1:=by
 unfold A6k
 have e:(Str.ofString (toString (n:Int))).length=(Nat.toDigits 10 n).length:=by
   have:=aM List.length (KIN.signs_num n)
   rw[aP] at this
   rw[<-this];rfl
 rw[e]
 have a:(Nat.toDigits 10 n).length<=j+1:=digits10_le (by lia) d
 have b:j+1<=(Nat.toDigits 10 n).length:=digits10_ge c
 lia
def C0g[Decidable c](h:¬c)(a:A):if(!decide c)=true then A else B:=by rw[aI h];exact Y9 a
def SzL(t:Int):Prop:=1<=t/\t<A8 500
def SzL.nat{t:Int}(h:SzL t):∃n:Nat,t=(n:Int)/\1<=n/\n<10^500:=by
 obtain⟨n,rfl⟩:=aV (show 0<=t by have:=h.1;lia)
 exact⟨n,rfl,eQ.mp h.1,eB.mp h.2⟩
def SzL.sz{t:Int}(h:SzL t):Sz t:=⟨h.1,fA h.2 (Z7 (by decide))⟩
def SzL.log{t:Int}(h:SzL t):t.natAbs.log2<1920:=by
 obtain⟨n,rfl,_,a⟩:=h.nat
 have:n<2^1670:=aQ (aQ a (bH (by decide) (by decide:500<=3*167))) (C6y 167)
 exact bY (Z3 (i:=(n:Int)) (k:=1670) (by rw[eW];exact this) (by decide)) (by decide)
inductive A3x(d e f:Addr)(vs:List V)(H:Hp)(Q:VK)(E:XK):Prop
 |mk(c v a b xs ys n x) (L:Int)(_:vs=[.ref c,.ref n])(_:U5 e H c v a b xs ys)(_:v.Ok)(_:xs.length<=900)(_:V7 xs=xs)(_:J0 d H n x)(_:0<=x.s)(_:x.s<=1)(_:0<=x.f)(_:x.f<A8 500)(_: -400<=x.p)(_:x.p<=400)(_:x.k= .plain ->x.f≠0 ->A0c x.f 1 (x.p-L))(_:V9 d e f H c v b xs ys (A4b v x L) Q E)
def bg5{x:Nm}(h:x.Bg):0<=x.f/\x.f<A8 500/\ -400<=x.p/\x.p<=400:=⟨h.f0,fA h.f1 (Z7 (by decide)),h.p0,h.p1⟩
def D7t{f q T O fI m C CB F U CW CR CE:Addr}{cw:Wy ->Addr}(D:Def K Y "rounded" Q9 A3s f fd)(dA:Def K Y "need_number" ["thing"] A3h q u)(dB:sI P w K Y Z 1 q u ["thing"] (A2w K m F))(dC:Def K Y "nought" Q11 A1n T t)(dE:sI P w K Y Z 3 T t Q11 (A2d m C))(dF:Def K Y "settled" Q14 A2b O s)(dG:sI P w K Y Z 6 O s Q14 (A1r m C U CR))(B:B3n P w K Y Z CR fI xu d0 gP vP)(R:B0j K Y CR CE)(N:Num K Y m):
   sI P w K Y Z 7 f fd Q9 (A3x m C U):=by
 refine okZ D.F D8c ?_
 rintro _ _ _ _ H _ Q E o i⟨c,v,a,b,xs,ys,n,x,L,rfl,p,ok,lx,I,d,s0,X,f0,q,p0,p1,hL,k⟩
 refine⟨_,(A2 (J9 (B7 dA dB o i (A0 (pv 1) A1))) (A2 (D3 (B5 A5b (C7 (pv 1) rfl) A9 B8) (A3 (A7 (pv 1))) C0) (A2 (D3 (B5 D5 (C7 (pv 1) rfl) A4 B8) (A3 (A7 (B7 dC dE o i (A0 (pv 0) (A0 (C7 (pv 1) rfl) (A0 (C7 (pv 1) rfl) A1)))))) C0) (A3 (A7 (B7 dF dG o i (A0 (pv 0) (A0 (C7 (pv 1) rfl) (A0 (A0r B.m B.g o R.g B.b3 .nil i (A0 (C7 (pv 1) rfl) (A0 A4 (A0 (C7 (pv 1) rfl) A1)))) (A0 (C7 (pv 1) rfl) A1)))))))))),?_⟩
 obtain⟨dn,h⟩:=id d
 refine⟨_,rfl,Or.inl ⟨n,_,_,_,_,rfl,d,?_⟩⟩
 refine⟨rfl,h,N.cl,N.n1,A1a _ _ _ _,rfl,rfl,?_⟩
 by_cases l:x.k= .plain
 . have A:A4b v x L=if x.f=0 then(⟨.plain,x.s,0,C4j (A2x x.p (v.l-v.r+1)) v.m⟩,[]) else A3m v x.s x.f 1 x.p L x.p:=by unfold A4b;rw[l]
   rw[A] at k
   refine B0n (by rw[l];rfl) ⟨rfl,h,N.cl,N.n3,A1z,rfl,rfl,G5 (fun e=>?_) (fun e=>?_)⟩
   . have e:x.f=0:=V.int.inj e
     rw[aC e] at k
     exact⟨rfl,h,N.cl,N.n2,num2 _ _ _ _,rfl,h,N.cl,N.n4,A0y,c,v,a,b,xs,ys,x.s,x.p,rfl,p,fun n' H' nn s' j=>k.calm I s' p j⟩
   . have e:¬x.f=0:=fun z=>e (aM V.int z)
     rw[aA e] at k
     have W:SzL x.f:=⟨by lia,q⟩
     have G:Sz x.f:=W.sz
     have M:=hL l e
     have J:=A3e G Z4 M
     have fn:=A6g (v:=v) ok J.1 J.2 (by lia) (by lia)
     refine⟨rfl,h,N.cl,N.n2,num2 _ _ _ _,rfl,h,N.cl,N.n3,A1z,rfl,h,N.cl,N.n4,A0y,fun r dr m1 m2 me=>B0p m1 m2 me fun H1 g ra=>⟨rfl,?_⟩⟩
     obtain⟨xv,y⟩:=d.same g
     exact⟨rfl,y,N.cl,N.n4,A0y,c,v,a,b,xs,ys,r,x.f,1,x.p,L,x.s,x.p,rfl,p.same g,ok,lx,ra,G,Z4,M,fn.1,fn.2,s0,X,k.same g⟩
 have A:A4b v x L=(x,[]):=by
   unfold A4b
   cases i:x.k with
   |plain=>exact absurd i l
   |end_=>rfl
   |none=>rfl
 rw[A] at k
 exact C0g (fun z=>l (eqS (b:= .plain) z)) (k.calm I (C9.refl _) p d)
abbrev A6c:Stmt:=(top 43)
def Two(a:Addr)(H:Hp)(e d:Addr)(c b:Nm):Prop:=J0 a H e c/\J0 a H d b
def Two.same(h:Two g H d c b a)(e:C9 H f):Two g f d c b a:=⟨h.1.same e,h.2.same e⟩
def Z0{H:Hp}(h:Two f H b a d c)(e:H l=some (.lst [.ref b,.ref a])):C4y f H l [(b,d),(a,c)]:=⟨e,aU.2 ⟨h.1,aU.2 ⟨h.2,by simp⟩⟩⟩
def A4z{b a:Nm}:([(d,b),(c,a)].any fun p=>decide (p.2.k.str=("none":Str)))=decide (b.k= .none\/a.k= .none):=by
 have q:∀k:Kd,decide (k.str=("none":Str))=decide (k= .none):=fun k=>by cases k<;>decide+kernel
 simp[q]
def B6t{b a:Nm}:([(d,b),(c,a)].any fun p=>decide (p.2.k.str=("end":Str)))=decide (b.k= .end_\/a.k= .end_):=by
 have q:∀k:Kd,decide (k.str=("end":Str))=decide (k= .end_):=fun k=>by cases k<;>decide+kernel
 simp[q]
def kd_str{a b:Kd}:V.str a.str=V.str b.str↔a=b:=⟨fun h=>by cases a<;>cases b<;>first|rfl|(exfalso;revert h;decide+kernel),fun h=>by rw[h]⟩
inductive A5h(f d e:Addr)(vs:List V)(H:Hp)(Q:VK)(E:XK):Prop
 |mk(c v a b xs ys)(_:vs=[.ref c])(_:U5 d H c v a b xs ys)(_:xs.length<=900)(_:V9 f d e H c v b xs ys (Z5,["void"]) Q E)
def J8s:B9 ["context"] ["context"] (A5 A6c):=scK
def J2c(D:Def K Y "void" ["context"] A6c f fd)(L:Def K Y "nothing" [] Z2 G i)(J:sI P w K Y Z 3 G i [] (Y7 R))(C:A3k P w K Y Z T CB O CW cw):sI P w K Y Z 4 f fd ["context"] (A5h R T O):=by
 refine okZ D.F J8s ?_
 rintro _ _ _ _ H _ Q E l j⟨c,v,a,b,xs,ys,rfl,m,W,k⟩
 obtain⟨X,F,y,B,M⟩:=C.raised
 refine⟨_,(A2 (J9 (A2z (pv 0) C.c.cl y B l M .nil j (A0 (G8 (A0 A9 A1)) A1))) (A3 (A7 (A2m L J l j)))),?_⟩
 have r:1<=sizeLine:=C6 (by decide)
 obtain⟨dx,e⟩:=m.ins
 refine⟨rfl,e,A0t,r,fun p s=>?_⟩
 have u:=C9.upd (o:= .lst [.str "void"]) s
 refine⟨c,v.r,v.y,v.l,v.m,a,b,xs,ys,_,rfl,m.same u,by lia,.inl ⟨p,["void"],rfl,A6,by decide,by decide+kernel,fun A a' q x h ct=>?_,fun t z a' d q x h ct U I=>?_⟩⟩
 . exact⟨rfl,fun n N nn s2 g=>k.1 A n a' N (B9x (u.free h)) ((Exc.of u).trans (x.trans (Exc.of s2))) (A2s.same ct s2) g⟩
 exact k.2 t z a' d q (B9x (u.free h)) ((Exc.of u).trans x) ct I
abbrev B3z:Stmt:=(top 103)
abbrev A9r:Stmt:=(top 104)
abbrev C3c:Stmt:=(top 105)
abbrev D3c:Stmt:=(top 96)
abbrev C3r:Stmt:=(top 97)
def A4h(x y:Nm):Int:=if y.p<x.p then y.p else x.p
def A7d(x y:Nm):Int:=x.wh (A4h x y)+y.wh (A4h x y)
def B9w(t:Int):Int:=if t<0 then -t else t
def C9w(t:Int):Int:=if t<0 then 1 else 0
def V2d:Wy ->Int
 | .floor=>1
 |_=>0
def C1f(y:Wy)(a b:Int):Int:=if a=b then a else V2d y
def G0a(x:Nm):Nm:=⟨x.k,1-x.s,x.f,x.p⟩
def J7q(x y:Nm):A4h x y<=x.p/\A4h x y<=y.p/\(A4h x y=x.p\/A4h x y=y.p):=by
 unfold A4h
 split<;>lia
def U7p{x:Nm}{q:Int}(h:x.Bg)(e:x.p-q<=800): -(A8 920)<=x.wh q/\x.wh q<=A8 920:=by
 have d:=D7 (x.p-q)
 have a:x.f*A8 (x.p-q)<=A8 120*A8 800:=fT (bB h.f1) (Z7 (by lia)) (bB d) (bB (D7 _))
 have b:A8 120*A8 800=A8 920:=by decide+kernel
 have c:0<=x.f*A8 (x.p-q):=fC h.f0 (bB d)
 unfold Nm.wh
 split<;>lia
def J8u{t:Int}(h:t≠0)(a: -(2*A8 920)<=t)(b:t<=2*A8 920):Sz (B9w t):=by
 have c:2*A8 920<A8 1000:=by decide+kernel
 unfold B9w
 constructor<;>split<;>lia
def C8x{x y:Nm}(d:x.Bg)(c:y.Bg)(h:A7d x y≠0):Sz (B9w (A7d x y)):=by
 obtain⟨g,f,e⟩:=J7q x y
 have:=d.p0;have:=d.p1;have:=c.p0;have:=c.p1
 have a:=U7p (q:=A4h x y) d (by lia)
 have b:=U7p (q:=A4h x y) c (by lia)
 refine J8u h ?_ ?_<;>unfold A7d<;>lia
inductive D5a(i j:Addr)(vs:List V)(H:Hp)(Q:VK)(_:XK):Prop
 |mk(c v a b xs ys g f e d)(_:vs=[.ref c,.ref g,.ref f])(_:U5 j H c v a b xs ys)(_:Two i H g f e d)(_:∀h,C9 H h ->Q (.int (C1f v.y e.s d.s)) h)
def J4x:B9 Q0 Q0 (A5 C3c):=scK
def G3h{cw:Wy ->Addr}(D:Def K Y "sign_of_no_sum" Q0 C3c f fd)(C:A3k P w K Y Z L CB CT CW cw)(G:∀y:Wy,D9m P w K Y Z (cw y) y.name)(N:Num K Y J):sI P w K Y Z 3 f fd Q0 (D5a J L):=by
 refine okZ D.F J4x ?_
 rintro _ _ _ _ H _ Q E g d⟨c,v,a,b,xs,ys,R,O,m,l,rfl,i,⟨⟨d1,j⟩,⟨d2,A⟩⟩,k⟩
 obtain⟨T,t,o,r,B⟩:=C.way
 obtain⟨U,u,p,s,F⟩:=G v.y
 refine⟨_,(A2 (D3 (B5 D5 (C7 (pv 1) rfl) (C7 (pv 2) rfl) B8) (A3 (A7 (C7 (pv 1) rfl))) C0) (A3 (A7 (G6 (B5 D5 (Y6 (Y6 (pv 0) C.c.cl o r g B .nil d) (C.wc v.y).cl p s g F .nil d) A9 B8) A4 A4)))),?_⟩
 obtain⟨W,e⟩:=i.ins
 refine⟨rfl,j,N.cl,N.n2,num2 _ _ _ _,rfl,A,N.cl,N.n2,num2 _ _ _ _,rfl,rfl,G5 (fun h=>?_) (fun h=>?_)⟩
 . have k:=k H (C9.refl _)
   unfold C1f at k
   rw[aC (V.int.inj h)] at k
   exact⟨rfl,j,N.cl,N.n2,num2 _ _ _ _,k⟩
 refine⟨rfl,e,A4u,c,v.r,v.y,v.l,v.m,a,b,_,_,rfl,i,fun q X I M n x=>?_⟩
 have k:=k I n
 have e:C1f v.y m.s l.s=(if V.str v.y.name=V.str "floor" then 1 else 0):=by
   unfold C1f
   rw[aA fun z=>h (aM V.int z)]
   cases v.y<;>decide+kernel
 rw[e] at k
 refine⟨rfl,x,rfl,q,rfl,rfl,rfl,G5 (fun h=>?_) (fun h=>?_)⟩
 . rw[aC h] at k
   exact k
 rw[aA h] at k
 exact k
def U4y(t:Int):0<=C9w t/\C9w t<=1:=by unfold C9w;split<;>decide
def J2e(x y:Nm):Nm×List Str:=if x.k=y.k/\¬x.s=y.s then(Z5,["void"]) else(if x.k= .end_ then x else y,[])
def D7y(v:Cv)(x y:Nm)(L:Int):Nm×List Str:=if x.k= .end_\/y.k= .end_ then J2e x y else if A7d x y=0 then(A2f v (C1f v.y x.s y.s) (A4h x y),[]) else A3m v (C9w (A7d x y)) (B9w (A7d x y)) 1 (A4h x y) L (A4h x y)
def D4b(x y:Nm)(L:Int):Prop:=x.k= .plain ->y.k= .plain ->A7d x y≠0 ->A0c (B9w (A7d x y)) 1 (A4h x y-L)
def C5q(v:Cv)(x y:Nm)(L:Int):Nm×List Str:=if x.k= .none\/y.k= .none then(Z5,[]) else D7y v x y L
def C5h{x:Nm}(b:x.k≠ .none)(a:x.k≠ .end_):x.k= .plain:=by
 cases h:x.k with
 |plain=>rfl
 |end_=>exact absurd h a
 |none=>exact absurd h b
inductive B8x(h i j:Addr)(vs:List V)(H:Hp)(Q:VK)(E:XK):Prop
 |mk(c v a b xs ys g f e d)(_:vs=[.ref c,.ref g,.ref f])(_:U5 i H c v a b xs ys)(_:xs.length<=900)(_:V7 xs=xs)(_:Two h H g f e d)(_:V9 h i j H c v b xs ys (J2e e d) Q E)
def D0n:B9 Q0 Q0 (A5 A9r):=scK
def C5v(D:Def K Y "end_added" Q0 A9r f fd)(G:Def K Y "void" ["context"] A6c C o)(F:sI P w K Y Z 4 C o ["context"] (A5h s J I))(N:Num K Y s):sI P w K Y Z 5 f fd Q0 (B8x s J I):=by
 refine okZ D.F D0n ?_
 rintro _ _ _ _ H _ Q E A y⟨c,v,a,b,xs,ys,u,t,e,g,rfl,m,x,p,l,k⟩
 obtain⟨⟨M,j⟩,⟨L,q⟩⟩:=id l
 refine⟨_,(A2 (D3 (PW.pt (A5u (B5 D5 (C7 (pv 1) rfl) (C7 (pv 2) rfl) B8) (A3p (B5 A5b (C7 (pv 1) rfl) (C7 (pv 2) rfl) B8)))) (A3 (A7 (B7 G F A y (A0 (pv 0) A1)))) C0) (A3 (A7 (G6 (B5 D5 (C7 (pv 1) rfl) A9 B8) (pv 1) (pv 2))))),?_⟩
 unfold J2e at k
 have d:(¬(e.k=g.k/\¬e.s=g.s)) ->(if decide (V.str e.k.str=V.str ("end":Str))=true then Q (.ref u) H else Q (.ref t) H):=fun B=>by
   rw[aA B] at k
   refine G5 (fun h=>?_) (fun h=>?_)
   . rw[aC (eqS (b:= .end_) h)] at k
     exact k.calm p (C9.refl _) m l.1
   . rw[aA (neS (b:= .end_) h)] at k
     exact k.calm p (C9.refl _) m l.2
 refine⟨rfl,j,N.cl,N.n1,A1a _ _ _ _,rfl,q,N.cl,N.n1,A1a _ _ _ _,rfl,rfl,G5 (fun n=>?_) (fun n=>?_)⟩
 . refine⟨rfl,j,N.cl,N.n2,num2 _ _ _ _,rfl,q,N.cl,N.n2,num2 _ _ _ _,rfl,rfl,?_⟩
   by_cases i:e.s=g.s
   . refine B0n (aM V.int i) ?_
     have r:=d fun z=>z.2 i
     refine⟨rfl,j,N.cl,N.n1,A1a _ _ _ _,rfl,rfl,G5 (fun h=>?_) (fun h=>?_)⟩
     . rw[aT h] at r
       exact r
     . rw[aI h] at r
       exact r
   . rw[aC ⟨kd_str.mp n,i⟩] at k
     rw[aI (fun z=>i (V.int.inj z):¬V.int e.s=V.int g.s)]
     exact Y9 ⟨c,v,a,b,xs,ys,rfl,m,x,k⟩
 have r:=d fun z=>n (kd_str.mpr z.1)
 refine⟨rfl,j,N.cl,N.n1,A1a _ _ _ _,rfl,rfl,G5 (fun h=>?_) (fun h=>?_)⟩
 . rw[aT h] at r
   exact r
 rw[aI h] at r
 exact r
inductive B3k(h i j:Addr)(vs:List V)(H:Hp)(Q:VK)(E:XK):Prop
 |mk(c v a b xs ys g f e d L)(_:vs=[.ref c,.ref g,.ref f])(_:U5 i H c v a b xs ys)(_:v.Ok)(_:xs.length<=900)(_:V7 xs=xs)(_:Two h H g f e d)(_:e.k≠ .none)(_:d.k≠ .none)(_:e.Bg)(_:d.Bg)(_:D4b e d L)(_:V9 h i j H c v b xs ys (D7y v e d L) Q E)
def scAdded:B9 ["context","one","other","low","total"] Q0 (A5 B3z):=scK
def G4n{f f1 f2 f3 f4 f5 f6 fR t B CB M CW CR CE:Addr}(D:Def K Y "added" Q0 B3z f fd)(dC:Def K Y "some_of_kind" Q4 A2p f1 yh)(dE:sI P w K Y Z 1 f1 yh Q4 (A1q t))(dF:Def K Y "end_added" Q0 A9r f2 xz)(dG:sI P w K Y Z 5 f2 xz Q0 (B8x t B M))(dA:Def K Y "whole_at" Q12 A2a f3 xy)(dB:sI P w K Y Z 3 f3 xy Q12 (B4t t))(dH:Def K Y "nought" Q11 A1n f4 xx)(dJ:sI P w K Y Z 3 f4 xx Q11 (A2d t B))(dL:Def K Y "sign_of_no_sum" Q0 C3c f5 xw)(dM:sI P w K Y Z 3 f5 xw Q0 (D5a t B))(dN:Def K Y "settled" Q14 A2b f6 xv)(dP:sI P w K Y Z 6 f6 xv Q14 (A1r t B M CR))(C:A3k P w K Y Z B CB M CW cw)(N:Num K Y t)(MR:B3n P w K Y Z CR fR yi d0 gP vP)(R:B0j K Y CR CE)(O:Own Y):sI P w K Y Z 7 f fd Q0 (B3k t B M):=by
 refine okZ D.F scAdded ?_
 rintro _ _ _ _ H _ Q E y x⟨c,v,a,b,xs,ys,I,G,g,d,L,rfl,W,ok,lx,ox,tw,h1,h2,X,g2,hL,k⟩
 refine⟨_,(A2 (D3 (V3 (B7 dC dE y x (A0 (G8 (A0 (pv 1) (A0 (pv 2) A1))) (A0 A9 A1)))) (A3 (A7 (B7 dF dG y x (A0 (pv 0) (A0 (pv 1) (A0 (pv 2) A1)))))) C0) (A2 (psz (i:=3) scAdded.nd (G9 (A4r rfl) (by rfl) O.min_ boot_min (A0 (C7 (pv 1) rfl) (A0 (C7 (pv 2) rfl) A1)))) (A2 (psz (i:=4) scAdded.nd (D0 V8 (B7 dA dB y x (A0 (pv 1) (A0 (pv 3) A1))) (B7 dA dB y x (A0 (pv 2) (A0 (pv 3) A1))))) (A2 (D3 (B5 D5 (pv 4) A4 B8) (A3 (A7 (B7 dH dJ y x (A0 (pv 0) (A0 (B7 dL dM y x (A0 (pv 0) (A0 (pv 1) (A0 (pv 2) A1)))) (A0 (pv 3) A1)))))) C0) (A3 (A7 (B7 dN dP y x (A0 (pv 0) (A0 (G6 (B5 B0k (pv 4) A4 B8) A4 A4) (A0 (A0r MR.m MR.g y R.g MR.b3 .nil x (A0 (G9 A4x (by rfl) O.abs_ kD (A0 (pv 4) A1)) (A0 A4 (A0 (pv 3) A1)))) (A0 (pv 3) A1))))))))))),?_⟩
 have z2:2<=sizeLine:=C6 (by decide)
 refine⟨z2,fun l nl=>?_⟩
 have u:=C9.upd (o:= .lst [.ref I,.ref G]) nl
 refine⟨l,_,_,rfl,Z0 (tw.same u) A6,(by show 2<=1000;decide),fun H3 s3=>⟨rfl,?_⟩⟩
 have p:=u.trans s3
 have j:=tw.same p
 have J:=W.same p
 rw[B6t]
 unfold D7y at k
 refine G5 (fun he=>?_) (fun he=>?_)
 . rw[aC he] at k
   exact⟨c,v,a,b,xs,ys,I,G,g,d,rfl,J,lx,ox,j,k.same p⟩
 rw[aA he] at k
 have k1:g.k= .plain:=C5h h1 fun z=>he (.inl z)
 have k2:d.k= .plain:=C5h h2 fun z=>he (.inr z)
 obtain⟨⟨d1,e1⟩,⟨d2,e2⟩⟩:=id j
 obtain⟨U,T,m3⟩:=J7q g d
 have:=X.p0;have:=X.p1;have:=g2.p0;have:=g2.p1
 refine⟨rfl,e1,N.cl,N.n4,A0y,rfl,e2,N.cl,N.n4,A0y,_,_,rfl,?_⟩
 show J4s _ _ _ [sr c,sr I,sr G,si (A4h g d),none] H3
 refine⟨I,g,A4h g d,rfl,j.1,X,by lia,by lia,G,d,A4h g d,rfl,j.2,g2,by lia,by lia,rfl,rfl,G5 (fun r=>?_) (fun r=>?_)⟩
 . have r:A7d g d=0:=V.int.inj r
   rw[aC r] at k
   refine⟨c,v,a,b,xs,ys,I,G,g,d,rfl,J,j,fun s A=>?_⟩
   have m:=p.trans A
   exact⟨c,v,a,b,xs,ys,C1f v.y g.s d.s,A4h g d,rfl,W.same m,fun n H' nn s' xu=>k.calm ox (m.trans s') W xu⟩
 have r:¬A7d g d=0:=fun z=>r (aM V.int z)
 rw[aA r] at k
 have sz:=C8x X g2 r
 have ld:=hL k1 k2 r
 have ls:=A3e sz Z4 ld
 have fn:=A6g (n:=A4h g d) ok ls.1 ls.2 (by lia) (by lia)
 have nb:=U4y (A7d g d)
 have fin:∀sg:Int,sg=C9w (A7d g d) ->∀q s,C9 H3 s ->A6m CR s q (B9w (A7d g d)) 1 (A4h g d) ->A1r t B M CR [.ref c,.int sg,.ref q,.int (A4h g d)] s Q E:=fun sg e q s A F=>by
   subst e
   have m:=p.trans A
   exact⟨c,v,a,b,xs,ys,q,_,1,_,_,_,_,rfl,W.same m,ok,lx,F,sz,Z4,ld,fn.1,fn.2,nb.1,nb.2,k.same m⟩
 refine⟨rfl,G5 (fun h=>?_) (fun h=>?_)⟩
 . have e:(1:Int)=C9w (A7d g d):=(aC h).symm
   exact⟨_,rfl,fun q dq U T me=>B0p U T me fun s A F=>⟨rfl,fin 1 e q s A F⟩⟩
 have e:(0:Int)=C9w (A7d g d):=(aA h).symm
 exact⟨_,rfl,fun q dq U T me=>B0p U T me fun s A F=>⟨rfl,fin 0 e q s A F⟩⟩
def U5f(K:Frag)(a:Addr)(H:Hp)(b v2:V):Prop:=A1k K a H b\/∃n x,b= .ref n/\J0 a H n x/\A1k K a H v2
def pmW(wh:Int)(x:Nm):Nm:=if wh=0 then x else G0a x
inductive U1w(K:Frag)(f k l CB:Addr)(wh:Int)(vs:List V)(H:Hp)(Q:VK)(E:XK):Prop
 |mk(c g v2)(_:vs=[.ref c,g,v2])(_:(∃v a b xs ys i h e d L,g= .ref i/\v2= .ref h/\U5 k H c v a b xs ys/\v.Ok/\xs.length<=900/\V7 xs=xs/\J0 f H i e/\J0 f H h d/\e.Ok/\d.Ok/\D4b e (pmW wh d) L/\V9 f k l H c v b xs ys (C5q v e (pmW wh d) L) Q E)\/(U5f K f H g v2/\∀j,C9 H j ->E (.ref CB) none j))
def J8k:B9 Q0 Q0 (A5 D3c):=scK
def J3x:B9 Q0 Q0 (A5 C3r):=scK
def J3j(D:Def K Y "plus" Q0 D3c f fd)(dA:Def K Y "need_numbers" ["things"] A2g f1 J)(dB:sI P w K Y Z 2 f1 J ["things"] (A2c K j M))(dC:Def K Y "some_of_kind" Q4 A2p f2 I)(dE:sI P w K Y Z 1 f2 I Q4 (A1q j))(dF:Def K Y "nothing" [] Z2 f3 G)(dG:sI P w K Y Z 3 f3 G [] (Y7 j))(dH:Def K Y "added" Q0 B3z f4 F)(dJ:sI P w K Y Z 7 f4 F Q0 (B3k j CC CT)):sI P w K Y Z 8 f fd Q0 (U1w K j CC CT M 0):=by
 refine okZ D.F J8k ?_
 rintro _ _ _ _ H _ Q E s r⟨c,O,v2,rfl,h⟩
 refine⟨_,(A2 (J9 (B7 dA dB s r (A0 (G8 (A0 (pv 1) (A0 (pv 2) A1))) A1))) (A2 (D3 (V3 (B7 dC dE s r (A0 (G8 (A0 (pv 1) (A0 (pv 2) A1))) (A0 A9 A1)))) (A3 (A7 (A2m dF dG s r))) C0) (A3 (A7 (B7 dH dJ s r (A0 (pv 0) (A0 (pv 1) (A0 (pv 2) A1)))))))),?_⟩
 have N:2<=sizeLine:=C6 (by decide)
 refine⟨N,fun l nl=>?_⟩
 have u:=C9.upd (o:= .lst [O,v2]) nl
 rcases h with⟨v,a,b,xs,ys,q,m,t,g,L,rfl,rfl,T,ok,lx,R,m1,m2,o1,o2,U,k⟩|⟨bad,k⟩
 . have A:Two j H q m t g:=⟨m1,m2⟩
   refine⟨l,[(q,t),(m,g)],rfl,(Z0 (A.same u) A6).n,.inl ⟨A6,?_⟩⟩
   refine⟨N,fun l2 B=>?_⟩
   have u2:=u.trans (C9.upd (o:= .lst [.ref q,.ref m]) B)
   refine⟨l2,_,_,rfl,Z0 (A.same u2) A6,(by show 2<=1000;decide),fun H3 W=>⟨rfl,?_⟩⟩
   have d:=u2.trans W
   rw[A4z]
   rw[show pmW 0 g=g from aC rfl] at k U
   unfold C5q at k
   refine G5 (fun i=>?_) (fun i=>?_)
   . rw[aC i] at k
     exact⟨rfl,fun n H' nn X e=>k.calm R (d.trans X) T e⟩
   . rw[aA i] at k
     have y:=A.same d
     exact⟨c,v,a,b,xs,ys,q,m,t,g,L,rfl,T.same d,ok,lx,R,y,fun z=>i (.inl z),fun z=>i (.inr z),o1.bg,o2.bg,U,k.same d⟩
 rcases bad with b|⟨n,x,rfl,e,b⟩
 . exact⟨l,[],rfl,(fun p C=>by cases C),.inr ⟨O,[v2],A6,b.same u,k _ u⟩⟩
 exact⟨l,[(n,x)],rfl,(fun p C=>by rw[bE.mp C];exact e.same u),.inr ⟨v2,[],A6,b.same u,k _ u⟩⟩
def G0w(D:Def K Y "minus" Q0 C3r f fd)(dA:Def K Y "need_numbers" ["things"] A2g f1 xu)(dB:sI P w K Y Z 2 f1 xu ["things"] (A2c K e xv))(dC:Def K Y "some_of_kind" Q4 A2p f2 X)(dE:sI P w K Y Z 1 f2 X Q4 (A1q e))(dF:Def K Y "nothing" [] Z2 f3 W)(dG:sI P w K Y Z 3 f3 W [] (Y7 e))(dH:Def K Y "added" Q0 B3z f4 U)(dJ:sI P w K Y Z 7 f4 U Q0 (B3k e CC CT))(N:Num K Y e)(M:A4g P w K Y Z e fI xw):sI P w K Y Z 8 f fd Q0 (U1w K e CC CT xv 1):=by
 refine okZ D.F J3x ?_
 rintro _ _ _ _ H _ Q E y t⟨c,v1,v2,rfl,h⟩
 refine⟨_,(A2 (J9 (B7 dA dB y t (A0 (G8 (A0 (pv 1) (A0 (pv 2) A1))) A1))) (A2 (D3 (V3 (B7 dC dE y t (A0 (G8 (A0 (pv 1) (A0 (pv 2) A1))) (A0 A9 A1)))) (A3 (A7 (A2m dF dG y t))) C0) (A3 (A7 (B7 dH dJ y t (A0 (pv 0) (A0 (pv 1) (A0 (A0r M.m (B0.up M.g) y N.g M.b .nil t (A0 (C7 (pv 2) rfl) (A0 (D0 Y4 A4 (C7 (pv 2) rfl)) (A0 (C7 (pv 2) rfl) (A0 (C7 (pv 2) rfl) A1))))) A1)))))))),?_⟩
 have z2:2<=sizeLine:=C6 (by decide)
 refine⟨z2,fun l nl=>?_⟩
 have u:=C9.upd (o:= .lst [v1,v2]) nl
 rcases h with⟨v,a,b,xs,ys,s,R,q,g,L,rfl,rfl,hc,ok,lx,ox,m1,m2,o1,F,hL,k⟩|⟨bad,k⟩
 . have B:Two e H s R q g:=⟨m1,m2⟩
   refine⟨l,[(s,q),(R,g)],rfl,(Z0 (B.same u) A6).n,.inl ⟨A6,?_⟩⟩
   refine⟨z2,fun l2 O=>?_⟩
   have u2:=u.trans (C9.upd (o:= .lst [.ref s,.ref R]) O)
   refine⟨l2,_,_,rfl,Z0 (B.same u2) A6,(by show 2<=1000;decide),fun H3 s3=>⟨rfl,?_⟩⟩
   have j:=u2.trans s3
   rw[A4z]
   rw[show pmW 1 g=G0a g from aA (by decide)] at k hL
   unfold C5q at k
   refine G5 (fun A=>?_) (fun A=>?_)
   . rw[aC (show q.k= .none\/(G0a g).k= .none from A)] at k
     exact⟨rfl,fun n I nn s' m=>k.calm ox (j.trans s') hc m⟩
   . rw[aA (show¬(q.k= .none\/(G0a g).k= .none) from A)] at k
     have J:=B.same j
     obtain⟨⟨d1,e1⟩,⟨d2,G⟩⟩:=id J
     refine⟨rfl,G,N.cl,N.n1,A1a _ _ _ _,rfl,G,N.cl,N.n2,num2 _ _ _ _,rfl,G,N.cl,N.n3,A1z,rfl,G,N.cl,N.n4,A0y,?_⟩
     refine A3r (Q:=fun u I=>B3k e CC CT ([V.ref c,V.ref s,u]++ []) I Q (fun C d I=>E C d I)) fun n' H4 nn s4 r=>?_
     have i:=j.trans s4
     exact⟨c,v,a,b,xs,ys,s,n',q,G0a g,L,rfl,hc.same i,ok,lx,ox,⟨B.1.same i,r⟩,fun z=>A (.inl z),fun z=>A (.inr z),o1.bg,⟨F.bg.f0,F.bg.f1,F.bg.p0,F.bg.p1⟩,hL,k.same i⟩
 rcases bad with b|⟨n,x,rfl,m,b⟩
 . exact⟨l,[],rfl,(fun p T=>by cases T),.inr ⟨v1,[v2],A6,b.same u,k _ u⟩⟩
 exact⟨l,[(n,x)],rfl,(fun p T=>by rw[bE.mp T];exact m.same u),.inr ⟨v2,[],A6,b.same u,k _ u⟩⟩
abbrev A7c:Stmt:=(top 19)
abbrev A9z:Stmt:=(top 100)
abbrev B3a:Stmt:=(top 101)
abbrev A8m:Stmt:=(top 102)
def A6d(a b:Int):Int:=if a=b then 0 else 1
def B8a(a b:Int):0<=A6d a b/\A6d a b<=1:=by unfold A6d;split<;>decide
def J7a(b a:Nm):Nm:=⟨.plain,A6d b.s a.s,b.f*a.f,b.p+a.p⟩
def A2y(x y:Nm):Nm:=if x.k= .end_\/y.k= .end_ then⟨.end_,A6d x.s y.s,0,0⟩ else J7a x y
def G2e(x:Nm):Bool:=decide (x.k= .plain)&&decide (x.f=0)
def EbN(x y:Nm):Bool:=decide (x.k= .end_\/y.k= .end_)&&(G2e x||G2e y)
def J2j{x y:Nm}(c:x.Ok)(b:y.Ok):(J7a x y).Bg:=by
 have:=c.p0;have:=c.p1;have:=b.p0;have:=b.p1
 refine⟨fC c.f0 b.f0,?_,by show -400<=x.p+y.p;lia,by show x.p+y.p<=400;lia⟩
 have a:x.f*y.f<=(10^60-1)*(10^60-1):=fT c.f1 b.f1 b.f0 (by decide+kernel)
 exact eF a (by decide+kernel)
def A6b{x y:Nm}(b:x.Ok)(a:y.Ok):(A2y x y).Bg:=by
 unfold A2y
 split
 . exact⟨by show(0:Int)<=0;decide,by show(0:Int)<A8 120;decide+kernel,by show(-400:Int)<=0;decide,by show(0:Int)<=400;decide⟩
 exact J2j b a
def J2n(x y:Nm):(A2y x y).s=A6d x.s y.s:=by
 unfold A2y
 split<;>rfl
def J3g(x y:Nm):(A2y x y).k≠ .none:=by
 unfold A2y
 split
 . exact fun z=>by cases z
 exact fun z=>by cases z
def G1w{x y:Nm}(b:x.Ok)(a:y.Ok):IntMulOk x.f y.f:=fz b.bits a.bits
inductive A9h(e:Addr)(vs:List V)(H:Hp)(Q:VK)(_:XK):Prop
 |mk(d c b a)(_:vs=[.ref d,.ref c])(_:Two e H d c b a)(_:Q (.int (A6d b.s a.s)) H)
def G0c:B9 Q3 Q3 (A5 A7c):=scK
def D8g(D:Def K Y "unlike_sign" Q3 A7c f fd)(N:Num K Y e):sI P w K Y Z 1 f fd Q3 (A9h e):=by
 refine okZ D.F G0c ?_
 rintro _ _ _ _ H _ Q E l j⟨i,g,b,a,rfl,⟨⟨n,d⟩,⟨m,c⟩⟩,k⟩
 refine⟨_,(A3 (A7 (G6 (B5 A5b (C7 (pv 0) rfl) (C7 (pv 1) rfl) B8) A4 A4))),rfl,d,N.cl,N.n2,num2 _ _ _ _,rfl,c,N.cl,N.n2,num2 _ _ _ _,rfl,rfl,?_⟩
 unfold A6d at k
 by_cases h:b.s=a.s
 . rw[aC h] at k
   exact B0n (aM V.int h) k
 rw[aA h] at k
 rw[aI (fun z=>h (by injection z):¬V.int b.s=V.int a.s)]
 exact Y9 k
inductive B8y(a:Addr)(vs:List V)(H:Hp)(Q:VK)(_:XK):Prop
 |mk(n x)(_:vs=[.ref n])(_:J0 a H n x)(_:Q (.bl (G2e x)) H)
def D0v:B9 ["number"] ["number"] (A5 A9z):=scK
def C7b(D:Def K Y "is_nought" ["number"] A9z f fd)(N:Num K Y a):sI P w K Y Z 1 f fd ["number"] (B8y a):=by
 refine okZ D.F D0v ?_
 rintro _ _ _ _ H _ Q E g c⟨n,x,rfl,⟨d,e⟩,k⟩
 refine⟨_,(A3 (A7 (A7b (V6 D5 (C7 (pv 0) rfl) A9 B8) (A3y (V6 D5 (C7 (pv 0) rfl) A4 B8))))),?_⟩
 unfold G2e at k
 refine⟨rfl,e,N.cl,N.n1,A1a _ _ _ _,rfl,rfl,G5 (fun h=>?_) (fun h=>?_)⟩
 . rw[aT (eqS (b:= .plain) h),Bool.true_and] at k
   refine⟨rfl,e,N.cl,N.n3,A1z,rfl,?_⟩
   have:decide (V.int x.f=V.int 0)=decide (x.f=0):=decide_eq_decide.mpr ⟨fun z=>V.int.inj z,fun z=>aM V.int z⟩
   rw[<-this] at k
   exact k
 rw[aI (neS (b:= .plain) h),Bool.false_and] at k
 have:decide (V.str x.k.str=V.str ("plain":Str))=false:=aI h
 first|exact k|(rw[this];exact k)
inductive B8z(f:Addr)(vs:List V)(H:Hp)(Q:VK)(_:XK):Prop
 |mk(d c b a)(_:vs=[.ref d,.ref c])(_:Two f H d c b a)(_:∀e,C9 H e ->Q (.bl (EbN b a)) e)
def G1p:B9 Q3 Q3 (A5 B3a):=scK
def D8m(D:Def K Y "is_end_by_nought" Q3 B3a f fd)(A:Def K Y "some_of_kind" Q4 A2p y g)(z:sI P w K Y Z 1 y g Q4 (A1q s))(r:Def K Y "is_nought" ["number"] A9z x e)(q:sI P w K Y Z 1 x e ["number"] (B8y s)):sI P w K Y Z 2 f fd Q3 (B8z s):=by
 refine okZ D.F G1p ?_
 rintro _ _ _ _ H _ Q E d c⟨n,m,b,h,rfl,i,k⟩
 refine⟨_,(A3 (A7 (A7b (B7 A z d c (A0 (G8 (A0 (pv 0) (A0 (pv 1) A1))) (A0 A9 A1))) (A3y (J6p (B7 r q d c (A0 (pv 0) A1)) (A3y (B7 r q d c (A0 (pv 1) A1)))))))),?_⟩
 have t:2<=sizeLine:=C6 (by decide)
 refine⟨t,fun l v=>?_⟩
 have u:=C9.upd (o:= .lst [.ref n,.ref m]) v
 refine⟨l,_,_,rfl,Z0 (i.same u) A6,(by show 2<=1000;decide),fun B j=>⟨rfl,?_⟩⟩
 have k:=k B (u.trans j)
 unfold EbN at k
 have a:=i.same (u.trans j)
 rw[B6t]
 cases he:decide (b.k= .end_\/h.k= .end_) with
 | false=>
   rw[he] at k
   exact V4 k
 | true=>
   rw[he,Bool.true_and] at k
   refine Y9 ⟨n,b,rfl,a.1,rfl,?_⟩
   cases p:G2e b with
   | true=>
     rw[p] at k
     exact Y9 k
   | false=>
     rw[p,Bool.false_or] at k
     exact V4 ⟨m,h,rfl,a.2,k⟩
inductive D1w(f:Addr)(vs:List V)(H:Hp)(Q:VK)(_:XK):Prop
 |mk(e d b a)(_:vs=[.ref e,.ref d])(_:Two f H e d b a)(_:IntMulOk b.f a.f)(_:∀n c,H n=none ->C9 H c ->J0 f c n (A2y b a) ->Q (.ref n) c)
def scProd:B9 ["one","other","sign"] Q3 (A5 A8m):=scK
def J3m(D:Def K Y "product" Q3 A8m f fd)(W:Def K Y "some_of_kind" Q4 A2p J p)(U:sI P w K Y Z 1 J p Q4 (A1q c))(T:Def K Y "unlike_sign" Q3 A7c I m)(R:sI P w K Y Z 1 I m Q3 (A9h c))(O:Def K Y "end" ["sign"] B9v G j)(L:sI P w K Y Z 3 G j ["sign"] (B5m K c CB))(N:Num K Y c)(M:A4g P w K Y Z c X F):sI P w K Y Z 4 f fd Q3 (D1w c):=by
 refine okZ D.F scProd ?_
 rintro _ _ _ _ H _ Q E e d⟨v,t,s,r,rfl,g,C,k⟩
 refine⟨_,(A2 (psz (i:=2) scProd.nd (B7 T R e d (A0 (pv 0) (A0 (pv 1) A1)))) (A2 (D3 (V3 (B7 W U e d (A0 (G8 (A0 (pv 0) (A0 (pv 1) A1))) (A0 A9 A1)))) (A3 (A7 (B7 O L e d (A0 (pv 2) A1)))) C0) (A3 (A7 (A0r M.m (B0.up M.g) e N.g M.b .nil d (A0 A9 (A0 (pv 2) (A0 (D0 V5 (C7 (pv 0) rfl) (C7 (pv 1) rfl)) (A0 (D0 V8 (C7 (pv 0) rfl) (C7 (pv 1) rfl)) A1))))))))),?_⟩
 have z:2<=sizeLine:=C6 (by decide)
 refine⟨v,t,s,r,rfl,g,z,fun l B=>?_⟩
 have u:=C9.upd (o:= .lst [.ref v,.ref t]) B
 refine⟨l,_,_,rfl,Z0 (g.same u) A6,(by show 2<=1000;decide),fun H' A=>⟨rfl,?_⟩⟩
 rw[B6t]
 have b:=u.trans A
 have us:=B8a s.s r.s
 unfold A2y at k
 refine G5 (fun h=>?_) (fun h=>?_)
 . rw[aC h] at k
   exact⟨_,rfl,.inl ⟨⟨_,rfl,us.1,us.2⟩,fun n q nn s2 a=>k n q (b.free nn) (b.trans s2) a⟩⟩
 rw[aA h] at k
 obtain⟨⟨d1,y⟩,⟨d2,x⟩⟩:=g.same b
 refine⟨rfl,y,N.cl,N.n3,A1z,rfl,x,N.cl,N.n3,A1z,C,rfl,y,N.cl,N.n4,A0y,rfl,x,N.cl,N.n4,A0y,?_⟩
 exact A3r fun n q nn s2 a=>k n q (b.free nn) (b.trans s2) a
abbrev C4g:Stmt:=(top 98)
def C3q(v:Cv)(x y:Nm)(L:Int):Nm×List Str:=if x.k= .none\/y.k= .none then(Z5,[]) else if EbN x y=true then(Z5,["void"]) else A4b v (A2y x y) L
def J7j(x:Nm)(L:Int):Prop:=x.k= .plain ->x.f≠0 ->A0c x.f 1 (x.p-L)
inductive D5f(K:Frag)(f k l CB:Addr)(vs:List V)(H:Hp)(Q:VK)(E:XK):Prop
 |mk(c g v2)(_:vs=[.ref c,g,v2])(_:(∃v a b xs ys i h e d L,g= .ref i/\v2= .ref h/\U5 k H c v a b xs ys/\v.Ok/\xs.length<=900/\V7 xs=xs/\J0 f H i e/\J0 f H h d/\e.Ok/\d.Ok/\J7j (A2y e d) L/\V9 f k l H c v b xs ys (C3q v e d L) Q E)\/(U5f K f H g v2/\∀j,C9 H j ->E (.ref CB) none j))
def J2b:B9 Q0 Q0 (A5 C4g):=scK
def G4e(D:Def K Y "times" Q0 C4g f fd)(dA:Def K Y "need_numbers" ["things"] A2g f1 T)(dB:sI P w K Y Z 2 f1 T ["things"] (A2c K j U))(dC:Def K Y "some_of_kind" Q4 A2p f2 R)(dE:sI P w K Y Z 1 f2 R Q4 (A1q j))(dF:Def K Y "nothing" [] Z2 f3 O)(dG:sI P w K Y Z 3 f3 O [] (Y7 j))(dH:Def K Y "rounded" Q9 A3s f6 N)(dJ:sI P w K Y Z 7 f6 N Q9 (A3x j CC CT))(dL:Def K Y "is_end_by_nought" Q3 B3a f7 M)(dM:sI P w K Y Z 2 f7 M Q3 (B8z j))(dN:Def K Y "product" Q3 A8m f8 J)(dP:sI P w K Y Z 4 f8 J Q3 (D1w j))(dQ:Def K Y "void" ["context"] A6c f9 I)(dS:sI P w K Y Z 4 f9 I ["context"] (A5h j CC CT)):sI P w K Y Z 8 f fd Q0 (D5f K j CC CT U):=by
 refine okZ D.F J2b ?_
 rintro _ _ _ _ H _ Q E r q⟨c,X,v2,rfl,h⟩
 refine⟨_,(A2 (J9 (B7 dA dB r q (A0 (G8 (A0 (pv 1) (A0 (pv 2) A1))) A1))) (A2 (D3 (V3 (B7 dC dE r q (A0 (G8 (A0 (pv 1) (A0 (pv 2) A1))) (A0 A9 A1)))) (A3 (A7 (A2m dF dG r q))) C0) (A2 (D3 (V3 (B7 dL dM r q (A0 (pv 1) (A0 (pv 2) A1)))) (A3 (A7 (B7 dQ dS r q (A0 (pv 0) A1)))) C0) (A3 (A7 (B7 dH dJ r q (A0 (pv 0) (A0 (B7 dN dP r q (A0 (pv 1) (A0 (pv 2) A1))) A1)))))))),?_⟩
 have W:2<=sizeLine:=C6 (by decide)
 refine⟨W,fun l nl=>?_⟩
 have u:=C9.upd (o:= .lst [X,v2]) nl
 rcases h with⟨v,a,b,xs,ys,y,t,i,g,L,rfl,rfl,G,ok,lx,ox,m1,m2,o1,o2,hL,k⟩|⟨bad,k⟩
 . have z:Two j H y t i g:=⟨m1,m2⟩
   refine⟨l,[(y,i),(t,g)],rfl,(Z0 (z.same u) A6).n,.inl ⟨A6,?_⟩⟩
   refine⟨W,fun l2 B=>?_⟩
   have u2:=u.trans (C9.upd (o:= .lst [.ref y,.ref t]) B)
   refine⟨l2,_,_,rfl,Z0 (z.same u2) A6,(by show 2<=1000;decide),fun H3 s3=>⟨rfl,?_⟩⟩
   have m:=u2.trans s3
   rw[A4z]
   unfold C3q at k
   refine G5 (fun F=>?_) (fun F=>?_)
   . rw[aC F] at k
     exact⟨rfl,fun n H' nn s' d=>k.calm ox (m.trans s') G d⟩
   rw[aA F] at k
   refine⟨y,t,i,g,rfl,z.same m,fun H4 s4=>⟨rfl,?_⟩⟩
   have e:=m.trans s4
   cases he:EbN i g with
   | true=>
     rw[aC he] at k
     exact Y9 ⟨c,v,a,b,xs,ys,rfl,G.same e,lx,k.same e⟩
   | false=>
     rw[aA (by rw[he];exact aB)] at k
     refine V4 ⟨y,t,i,g,rfl,z.same e,G1w o1 o2,fun n H5 nn s5 d=>?_⟩
     have s:=e.trans s5
     have us:=B8a i.s g.s
     have es:=J2n i g
     have A:=bg5 (A6b o1 o2)
     exact⟨c,v,a,b,xs,ys,n,A2y i g,L,rfl,G.same s,ok,lx,ox,d,by rw[es];exact us.1,by rw[es];exact us.2,A.1,A.2.1,A.2.2.1,A.2.2.2,hL,k.same s⟩
 rcases bad with b|⟨n,x,rfl,d,b⟩
 . exact⟨l,[],rfl,(fun p C=>by cases C),.inr ⟨X,[v2],A6,b.same u,k _ u⟩⟩
 exact⟨l,[(n,x)],rfl,(fun p C=>by rw[bE.mp C];exact d.same u),.inr ⟨v2,[],A6,b.same u,k _ u⟩⟩
abbrev B4f:Stmt:=(top 99)
def C3m(v:Cv)(x y z:Nm)(L:Int):Nm×List Str:=if x.k= .none\/y.k= .none\/z.k= .none then(Z5,[]) else if EbN x y=true then(Z5,["void"]) else D7y v (A2y x y) z L
def D8h{c b a:Nm}:([(f,c),(e,b),(d,a)].any fun p=>decide (p.2.k.str=("none":Str)))=decide (c.k= .none\/b.k= .none\/a.k= .none):=by
 have q:∀k:Kd,decide (k.str=("none":Str))=decide (k= .none):=fun k=>by cases k<;>decide+kernel
 simp[q]
def B8h{H:Hp}(h:Two d H c b g f)(j:J0 d H a e)(i:H l=some (.lst [.ref c,.ref b,.ref a])):C4y d H l [(c,g),(b,f),(a,e)]:=⟨i,aU.2 ⟨h.1,aU.2 ⟨h.2,aU.2 ⟨j,by simp⟩⟩⟩⟩
def V3u(K:Frag)(a:Addr)(H:Hp)(b v2 c:V):Prop:=A1k K a H b\/(∃n x,b= .ref n/\J0 a H n x/\A1k K a H v2)\/∃n x m y,b= .ref n/\J0 a H n x/\v2= .ref m/\J0 a H m y/\A1k K a H c
inductive D5g(K:Frag)(d n o CB:Addr)(vs:List V)(H:Hp)(Q:VK)(E:XK):Prop
 |mk(c i v2 h)(_:vs=[.ref c,i,v2,h])(_:(∃v a b xs ys l k j g f e L,i= .ref l/\v2= .ref k/\h= .ref j/\U5 n H c v a b xs ys/\v.Ok/\xs.length<=900/\V7 xs=xs/\J0 d H l g/\J0 d H k f/\J0 d H j e/\g.Ok/\f.Ok/\e.Ok/\D4b (A2y g f) e L/\V9 d n o H c v b xs ys (C3m v g f e L) Q E)\/(V3u K d H i v2 h/\∀m,C9 H m ->E (.ref CB) none m))
def J5a:B9 Q42 Q42 (A5 B4f):=scK
def D9q(D:Def K Y "fused" Q42 B4f f fd)(dA:Def K Y "need_numbers" ["things"] A2g f1 xv)(dB:sI P w K Y Z 2 f1 xv ["things"] (A2c K g xw))(dC:Def K Y "some_of_kind" Q4 A2p f2 xu)(dE:sI P w K Y Z 1 f2 xu Q4 (A1q g))(dF:Def K Y "nothing" [] Z2 f3 X)(dG:sI P w K Y Z 3 f3 X [] (Y7 g))(dH:Def K Y "added" Q0 B3z f4 W)(dJ:sI P w K Y Z 7 f4 W Q0 (B3k g CC CT))(dL:Def K Y "is_end_by_nought" Q3 B3a f7 U)(dM:sI P w K Y Z 2 f7 U Q3 (B8z g))(dN:Def K Y "product" Q3 A8m f8 T)(dP:sI P w K Y Z 4 f8 T Q3 (D1w g))(dQ:Def K Y "void" ["context"] A6c f9 R)(dS:sI P w K Y Z 4 f9 R ["context"] (A5h g CC CT)):sI P w K Y Z 8 f fd Q42 (D5g K g CC CT xw):=by
 refine okZ D.F J5a ?_
 rintro _ _ _ _ H _ Q E t s⟨c,v1,v2,C,rfl,h⟩
 refine⟨_,(A2 (J9 (B7 dA dB t s (A0 (G8 (A0 (pv 1) (A0 (pv 2) (A0 (pv 3) A1)))) A1))) (A2 (D3 (V3 (B7 dC dE t s (A0 (G8 (A0 (pv 1) (A0 (pv 2) (A0 (pv 3) A1)))) (A0 A9 A1)))) (A3 (A7 (A2m dF dG t s))) C0) (A2 (D3 (V3 (B7 dL dM t s (A0 (pv 1) (A0 (pv 2) A1)))) (A3 (A7 (B7 dQ dS t s (A0 (pv 0) A1)))) C0) (A3 (A7 (B7 dH dJ t s (A0 (pv 0) (A0 (B7 dN dP t s (A0 (pv 1) (A0 (pv 2) A1))) (A0 (pv 3) A1))))))))),?_⟩
 have z3:3<=sizeLine:=C6 (by decide)
 refine⟨z3,fun l nl=>?_⟩
 have u:=C9.upd (o:= .lst [v1,v2,C]) nl
 rcases h with⟨v,a,b,xs,ys,B,A,J,j,i,x3,L,rfl,rfl,rfl,O,ok,lx,ox,m1,m2,M,o1,o2,o3,hL,k⟩|⟨bad,k⟩
 . have F:Two g H B A j i:=⟨m1,m2⟩
   refine⟨l,[(B,j),(A,i),(J,x3)],rfl,(B8h (F.same u) (M.same u) A6).n,.inl ⟨A6,?_⟩⟩
   refine⟨z3,fun l2 I=>?_⟩
   have u2:=u.trans (C9.upd (o:= .lst [.ref B,.ref A,.ref J]) I)
   refine⟨l2,_,_,rfl,B8h (F.same u2) (M.same u2) A6,(by show 3<=1000;decide),fun H3 s3=>⟨rfl,?_⟩⟩
   have r:=u2.trans s3
   rw[D8h]
   unfold C3m at k
   refine G5 (fun G=>?_) (fun G=>?_)
   . rw[aC G] at k
     exact⟨rfl,fun n H' nn s' d=>k.calm ox (r.trans s') O d⟩
   rw[aA G] at k
   refine⟨B,A,j,i,rfl,F.same r,fun H4 s4=>⟨rfl,?_⟩⟩
   have e:=r.trans s4
   cases he:EbN j i with
   | true=>
     rw[aC he] at k
     exact Y9 ⟨c,v,a,b,xs,ys,rfl,O.same e,lx,k.same e⟩
   | false=>
     rw[aA (by rw[he];exact aB)] at k
     refine V4 ⟨B,A,j,i,rfl,F.same e,G1w o1 o2,fun n H5 nn s5 d=>?_⟩
     have q:=e.trans s5
     exact⟨c,v,a,b,xs,ys,n,J,A2y j i,x3,L,rfl,O.same q,ok,lx,ox,⟨d,M.same q⟩,J3g j i,fun z=>G (.inr (.inr z)),A6b o1 o2,o3.bg,hL,k.same q⟩
 rcases bad with b|⟨n,x,rfl,d,b⟩|⟨n,x,m,y,rfl,d,rfl,num2,b⟩
 . exact⟨l,[],rfl,(fun p N=>by cases N),.inr ⟨v1,[v2,C],A6,b.same u,k _ u⟩⟩
 . exact⟨l,[(n,x)],rfl,(fun p N=>by rw[bE.mp N];exact d.same u),.inr ⟨v2,[C],A6,b.same u,k _ u⟩⟩
 exact⟨l,[(n,x),(m,y)],rfl,aU.2 ⟨d.same u,aU.2 ⟨num2.same u,by simp⟩⟩,.inr ⟨C,[],A6,b.same u,k _ u⟩⟩
abbrev D3m:Stmt:=(top 50)
abbrev C1w:Stmt:=(top 51)
abbrev A3d:Stmt:=(top 47)
def Nm.side(x:Nm):Int:=match x.k with
 | .plain=>0
 |_=>if x.s=1 then -1 else 1
def D1m(a b:Int):Int:=if a=b then 0 else if a<b then -1 else 1
def Kd.isN:Kd ->Bool
 | .none=>true
 |_=>false
def Kd.isE:Kd ->Bool
 | .end_=>true
 |_=>false
def B3w(x y:Nm):Option Int:=
 if(x.k.isN||y.k.isN)=true then none else if(x.k.isE||y.k.isE)=true then some (D1m x.side y.side) else some (D1m (x.wh (if y.p<x.p then y.p else x.p)) (y.wh (if y.p<x.p then y.p else x.p)))
def U6n:Option Int ->V
 |none=> .non
 |some i=> .int i
def D2r(k:Kd):decide (k.str=("none":Str))=k.isN:=by cases k<;>decide+kernel
def D3d(k:Kd):decide (k.str=("end":Str))=k.isE:=by cases k<;>decide+kernel
inductive G4z(a:Addr)(vs:List V)(H:Hp)(Q:VK)(_:XK):Prop
 |mk(n x)(_:vs=[.ref n])(_:J0 a H n x)(_:Q (.int x.side) H)
def U0b:B9 ["number"] ["number"] (A5 D3m):=scK
def J4j(D:Def K Y "side_of" ["number"] D3m f fd)(N:Num K Y d):sI P w K Y Z 1 f fd ["number"] (G4z d):=by
 refine okY D.F U0b ?_
 rintro _ _ _ _ H _ Q E g _⟨n,x,rfl,⟨i,e⟩,k⟩
 refine⟨_,(A2 (D3 (B5 D5 (C7 (pv 0) rfl) A9 B8) (A3 (A7 A4)) C0) (A3 (A7 (G6 (B5 D5 (C7 (pv 0) rfl) A4 B8) (A5c A2k A4) A4)))),rfl,e,N.cl,N.n1,A1a _ _ _ _,rfl,rfl,G5 (fun h=>?_) (fun h=>?_)⟩
 . have a:x.k= .plain:=eqS (b:= .plain) h
   unfold Nm.side at k
   rw[a] at k
   exact k
 have a:x.k≠ .plain:=neS (b:= .plain) h
 have c:x.side=if x.s=1 then -1 else 1:=by
   unfold Nm.side
   split
   . rename_i q;exact absurd q a
   . rfl
 rw[c] at k
 refine⟨rfl,e,N.cl,N.n2,num2 _ _ _ _,rfl,rfl,G5 (fun h=>?_) (fun h=>?_)⟩
 . rw[aC (by injection h)] at k
   exact k
 rw[aA fun q=>h (aM V.int q)] at k
 exact k
inductive D5s(vs:List V)(H:Hp)(Q:VK)(_:XK):Prop
 |mk(a b)(_:vs=[.int a,.int b])(_:Q (.int (D1m a b)) H)
def J1s:B9 Q3 Q3 (A5 C1w):=scK
def G3w(D:Def K Y "order_of" Q3 C1w f fd):sI P w K Y Z 1 f fd Q3 D5s:=by
 refine okY D.F J1s ?_
 rintro _ _ _ _ H _ Q E c _⟨a,b,rfl,k⟩
 refine⟨_,(A2 (D3 (B5 D5 (pv 0) (pv 1) B8) (A3 (A7 A4)) C0) (A3 (A7 (G6 (B5 B0k (pv 0) (pv 1) B8) (A5c A2k A4) A4)))),?_⟩
 unfold D1m at k
 refine⟨rfl,rfl,G5 (fun h=>?_) (fun h=>?_)⟩
 . rw[aC (by injection h)] at k
   exact k
 rw[aA fun q=>h (aM V.int q)] at k
 refine⟨rfl,G5 (fun h=>?_) (fun h=>?_)⟩
 . rw[aC h] at k
   exact k
 rw[aA h] at k
 exact k
inductive A5j(K:Frag)(b CB:Addr)(vs:List V)(H:Hp)(Q:VK)(E:XK):Prop
 |mk(v u)(_:vs=[v,u])(_:(∃n m x y,v= .ref n/\u= .ref m/\J0 b H n x/\J0 b H m y/\x.Ok/\y.Ok/\∀a,C9 H a ->Q (U6n (B3w x y)) a)\/((A1k K b H v\/∃n x,v= .ref n/\J0 b H n x/\A1k K b H u)/\∀a,C9 H a ->E (.ref CB) none a))
def scCompared:B9 ["one","other","low"] Q3 (A5 A3d):=scK
def C6n(D:Def K Y "compared" Q3 A3d f fd)(dL:Def K Y "need_numbers" ["things"] A2g f1 U)(dM:sI P w K Y Z 2 f1 U ["things"] (A2c K z CB))(dA:Def K Y "some_of_kind" Q4 A2p f2 T)(dB:sI P w K Y Z 1 f2 T Q4 (A1q z))(dC:Def K Y "side_of" ["number"] D3m f3 R)(dE:sI P w K Y Z 1 f3 R ["number"] (G4z z))(dF:Def K Y "order_of" Q3 C1w f4 M)(dG:sI P w K Y Z 1 f4 M Q3 D5s)(dH:Def K Y "whole_at" Q12 A2a f5 L)(dJ:sI P w K Y Z 3 f5 L Q12 (B4t z))(O:Own Y)(N:Num K Y z):
   sI P w K Y Z 4 f fd Q3 (A5j K z CB):=by
 refine okZ D.F scCompared ?_
 rintro _ _ _ _ H _ Q E c b⟨v,u,rfl,h⟩
 refine⟨_,(A2 (J9 (B7 dL dM c b (A0 (G8 (A0 (pv 0) (A0 (pv 1) A1))) A1))) (A2 (D3 (V3 (B7 dA dB c b (A0 (G8 (A0 (pv 0) (A0 (pv 1) A1))) (A0 A9 A1)))) (A3 (A7 A8d)) C0) (A2 (D3 (V3 (B7 dA dB c b (A0 (G8 (A0 (pv 0) (A0 (pv 1) A1))) (A0 A9 A1)))) (A3 (A7 (B7 dF dG c b (A0 (B7 dC dE c b (A0 (pv 0) A1)) (A0 (B7 dC dE c b (A0 (pv 1) A1)) A1))))) C0) (A2 (psz (i:=2) scCompared.nd (G9 (A4r rfl) (by rfl) O.min_ boot_min (A0 (C7 (pv 0) rfl) (A0 (C7 (pv 1) rfl) A1)))) (A3 (A7 (B7 dF dG c b (A0 (B7 dH dJ c b (A0 (pv 0) (A0 (pv 2) A1))) (A0 (B7 dH dJ c b (A0 (pv 1) (A0 (pv 2) A1))) A1))))))))),?_⟩
 have F:2<=sizeLine:=C6 (by decide)
 rcases h with⟨n,m,x,y,rfl,rfl,C,J,I,G,k⟩|⟨bad,k⟩
 . refine⟨F,fun l d=>⟨l,[(n,x),(m,y)],rfl,?_,.inl ⟨A6,?_⟩⟩⟩
   . intro p j
     rcases(by simpa using j:p=(n,x)\/p=(m,y)) with rfl|rfl
     . exact C.same (C9.upd d)
     . exact J.same (C9.upd d)
   have a:=C9.upd (o:= .lst [.ref n,.ref m]) d
   generalize upd H l (.lst [.ref n,.ref m])=X at a
   have g:∀{H':Hp} {l:Addr},C9 X H' ->H' l=none ->C4y z (upd H' l (.lst [.ref n,.ref m])) l [(n,x),(m,y)]:=fun s' d=>⟨A6,fun p j=>by
     rcases(by simpa using j:p=(n,x)\/p=(m,y)) with rfl|rfl
     . exact C.same (a.trans (s'.trans (C9.upd d)))
     . exact J.same (a.trans (s'.trans (C9.upd d)))⟩
   refine⟨F,fun l2 B=>⟨l2,_,"none",rfl,g (C9.refl _) B,(by decide:2<=1000),fun H2 s2=>?_⟩⟩
   have s2:C9 X H2:=(C9.upd B).trans s2
   have an:([(n,x),(m,y)].any fun p=>decide (p.2.k.str=("none":Str)))=(x.k.isN||y.k.isN):=by
     show(decide (x.k.str=("none":Str))||(decide (y.k.str=("none":Str))||false))=_
     rw[D2r,D2r,Bool.or_false]
   rw[an]
   unfold B3w at k
   refine⟨rfl,?_⟩
   cases eN:(x.k.isN||y.k.isN) with
   | true=>
     rw[eN,aC rfl] at k
     exact Y9 (k H2 (a.trans s2))
   | false=>
     rw[eN,aA aB] at k
     refine V4 ⟨F,fun l3 A=>⟨l3,_,"end",rfl,g s2 A,(by decide:2<=1000),fun W t=>?_⟩⟩
     have t:C9 X W:=s2.trans ((C9.upd A).trans t)
     have ae:([(n,x),(m,y)].any fun p=>decide (p.2.k.str=("end":Str)))=(x.k.isE||y.k.isE):=by
       show(decide (x.k.str=("end":Str))||(decide (y.k.str=("end":Str))||false))=_
       rw[D3d,D3d,Bool.or_false]
     rw[ae]
     have r:=C.same (a.trans t)
     have s:=J.same (a.trans t)
     refine⟨rfl,?_⟩
     cases eE:(x.k.isE||y.k.isE) with
     | true=>
       rw[eE,aC rfl] at k
       exact Y9 ⟨n,x,rfl,r,m,y,rfl,s,_,_,rfl,k W (a.trans t)⟩
     | false=>
       rw[eE,aA aB] at k
       obtain⟨dx,e⟩:=id r
       obtain⟨dy,e'⟩:=id s
       refine V4 ⟨rfl,e,N.cl,N.n4,A0y,rfl,e',N.cl,N.n4,A0y,_,_,rfl,?_⟩
       have:=I.p0;have:=I.p1;have:=G.p0;have:=G.p1
       have lo:∃q,(if y.p<x.p then y.p else x.p)=q/\q<=x.p/\q<=y.p/\ -200<=q:=by
         by_cases hq:y.p<x.p
         . exact⟨y.p,aC hq,by lia,by lia,by lia⟩
         . exact⟨x.p,aA hq,by lia,by lia,by lia⟩
       obtain⟨q,eq,q1,q2,q3⟩:=lo
       rw[eq] at k ⊢
       exact⟨n,x,q,rfl,r,I.bg,by lia,by lia,m,y,q,rfl,s,G.bg,by lia,by lia,_,_,rfl,k W (a.trans t)⟩
 refine⟨F,fun l d=>?_⟩
 have a:=C9.upd (o:= .lst [v,u]) d
 rcases bad with bad|⟨n,x,rfl,C,bad⟩
 . exact⟨l,[],rfl,fun p j=>by simp at j,.inr ⟨v,[u],A6,bad.same a,k _ a⟩⟩
 refine⟨l,[(n,x)],rfl,fun p j=>?_,.inr ⟨u,[],A6,bad.same a,k _ a⟩⟩
 have e:p=(n,x):=by simpa using j
 subst e
 exact C.same a
abbrev B6n:Stmt:=(top 48)
abbrev B1t:Stmt:=(top 49)
def C0c(w o:Int):Bool:=if w=0 then decide (o<=0) else decide (o>=0)
def D0d(w:Int)(x y:Nm):Nm:=match B3w x y with
 |none=>Z5
 |some o=>if C0c w o=true then x else y
def G2r(v:Cv)(w:Int)(x y:Nm)(L:Int):Nm×List Str:=match B3w x y with
 |none=>(Z5,[])
 |some o=>A4b v (if C0c w o=true then x else y) L
inductive G5a(K:Frag)(d k l CB:Addr)(wh:Int)(vs:List V)(H:Hp)(Q:VK)(E:XK):Prop
 |mk(c g v2)(_:vs=[.ref c,g,v2])(_:(∃v a b xs ys i h f e L,g= .ref i/\v2= .ref h/\U5 k H c v a b xs ys/\v.Ok/\xs.length<=900/\V7 xs=xs/\J0 d H i f/\J0 d H h e/\f.Ok/\e.Ok/\J7j (D0d wh f e) L/\V9 d k l H c v b xs ys (G2r v wh f e L) Q E)\/((A1k K d H g\/∃n x,g= .ref n/\J0 d H n x/\A1k K d H v2)/\∀j,C9 H j ->E (.ref CB) none j))
def scLesser:B9 ["context","one","other","order"] Q0 (A5 B6n):=scK
def scGreater:B9 ["context","one","other","order"] Q0 (A5 B1t):=scK
def D7m(D:Def K Y "lesser" Q0 B6n f fd)(dA:Def K Y "compared" Q3 A3d U A)(dB:sI P w K Y Z 4 U A Q3 (A5j K B C))(dC:Def K Y "nothing" [] Z2 T y)(dE:sI P w K Y Z 3 T y [] (Y7 B))(X:Def K Y "rounded" Q9 A3s R x)(W:sI P w K Y Z 7 R x Q9 (A3x B CC CT)):sI P w K Y Z 8 f fd Q0 (G5a K B CC CT C 0):=by
 refine okZ D.F scLesser ?_
 rintro _ _ _ _ H _ Q E t s⟨c,v1,v2,rfl,h⟩
 refine⟨_,(A2 (psz (i:=3) scLesser.nd (B7 dA dB t s (A0 (pv 1) (A0 (pv 2) A1)))) (A2 (D3 (B5 B4k (pv 3) A8d B8) (A3 (A7 (A2m dC dE t s))) C0) (A3 (A7 (B7 X W t s (A0 (pv 0) (A0 (G6 (B5 D3k (pv 3) A4 B8) (pv 1) (pv 2)) A1))))))),?_⟩
 rcases h with⟨v,a,b,xs,ys,G,F,p,m,L,rfl,rfl,u,ok,M,q,J,I,l,j,d,k⟩|⟨bad,k⟩
 . refine⟨_,_,rfl,.inl ⟨G,F,p,m,rfl,rfl,J,I,l,j,fun H3 g=>?_⟩⟩
   unfold D0d at d
   unfold G2r at k
   cases N:B3w p m with
   | none=>
     rw[N] at k
     exact⟨rfl,rfl,Y8 rfl ⟨rfl,fun n H' nn O r=>k.calm q (g.trans O) u r⟩⟩
   | some o=>
     rw[N] at k d
     refine⟨rfl,rfl,Y0 (fun z=>by cases z) ⟨rfl,G5 (fun h=>?_) (fun h=>?_)⟩⟩
     . have e:C0c 0 o=true:=aT h
       dsimp only at k d
       rw[aC e] at k d
       exact⟨c,v,a,b,xs,ys,G,p,L,rfl,u.same g,ok,M,q,J.same g,l.s0,l.s1,(bg5 l.bg).1,(bg5 l.bg).2.1,(bg5 l.bg).2.2.1,(bg5 l.bg).2.2.2,d,k.same g⟩
     . have e:¬C0c 0 o=true:=fun z=>h (fM z)
       dsimp only at k d
       rw[aA e] at k d
       exact⟨c,v,a,b,xs,ys,F,m,L,rfl,u.same g,ok,M,q,I.same g,j.s0,j.s1,(bg5 j.bg).1,(bg5 j.bg).2.1,(bg5 j.bg).2.2.1,(bg5 j.bg).2.2.2,d,k.same g⟩
 exact⟨_,_,rfl,.inr ⟨bad,k⟩⟩
def C8z(D:Def K Y "greater" Q0 B1t f fd)(dA:Def K Y "compared" Q3 A3d U A)(dB:sI P w K Y Z 4 U A Q3 (A5j K B C))(dC:Def K Y "nothing" [] Z2 T y)(dE:sI P w K Y Z 3 T y [] (Y7 B))(X:Def K Y "rounded" Q9 A3s R x)(W:sI P w K Y Z 7 R x Q9 (A3x B CC CT)):sI P w K Y Z 8 f fd Q0 (G5a K B CC CT C 1):=by
 refine okZ D.F scGreater ?_
 rintro _ _ _ _ H _ Q E t s⟨c,v1,v2,rfl,h⟩
 refine⟨_,(A2 (psz (i:=3) scGreater.nd (B7 dA dB t s (A0 (pv 1) (A0 (pv 2) A1)))) (A2 (D3 (B5 B4k (pv 3) A8d B8) (A3 (A7 (A2m dC dE t s))) C0) (A3 (A7 (B7 X W t s (A0 (pv 0) (A0 (G6 (B5 B1s (pv 3) A4 B8) (pv 1) (pv 2)) A1))))))),?_⟩
 rcases h with⟨v,a,b,xs,ys,G,F,p,m,L,rfl,rfl,u,ok,M,q,J,I,l,j,d,k⟩|⟨bad,k⟩
 . refine⟨_,_,rfl,.inl ⟨G,F,p,m,rfl,rfl,J,I,l,j,fun H3 g=>?_⟩⟩
   unfold D0d at d
   unfold G2r at k
   cases N:B3w p m with
   | none=>
     rw[N] at k
     exact⟨rfl,rfl,Y8 rfl ⟨rfl,fun n H' nn O r=>k.calm q (g.trans O) u r⟩⟩
   | some o=>
     rw[N] at k d
     refine⟨rfl,rfl,Y0 (fun z=>by cases z) ⟨rfl,G5 (fun h=>?_) (fun h=>?_)⟩⟩
     . have e:C0c 1 o=true:=aT h
       dsimp only at k d
       rw[aC e] at k d
       exact⟨c,v,a,b,xs,ys,G,p,L,rfl,u.same g,ok,M,q,J.same g,l.s0,l.s1,(bg5 l.bg).1,(bg5 l.bg).2.1,(bg5 l.bg).2.2.1,(bg5 l.bg).2.2.2,d,k.same g⟩
     . have e:¬C0c 1 o=true:=fun z=>h (fM z)
       dsimp only at k d
       rw[aA e] at k d
       exact⟨c,v,a,b,xs,ys,F,m,L,rfl,u.same g,ok,M,q,I.same g,j.s0,j.s1,(bg5 j.bg).1,(bg5 j.bg).2.1,(bg5 j.bg).2.2.1,(bg5 j.bg).2.2.2,d,k.same g⟩
 exact⟨_,_,rfl,.inr ⟨bad,k⟩⟩
abbrev B7w:Stmt:=(top 44)
abbrev C7j:Stmt:=(top 73)
abbrev C7e:Stmt:=(top 74)
def D8a(v:Cv)(b a:Nm)(i:Int):Nm×List Str:=
 if b.k= .end_ then(if a.k= .end_ then(Z5,["void"]) else(⟨.end_,A6d b.s a.s,0,0⟩,[]))
 else if a.k= .end_ then(A2f v (A6d b.s a.s) i,[]) else if b.f=0 then(Z5,["void"]) else(⟨.end_,A6d b.s a.s,0,0⟩,["split"])
def A3c(b a:Nm):Prop:=b.k= .plain/\a.k= .plain/\a.f≠0
noncomputable instance (x1 x2:Nm):Decidable (A3c x1 x2):=by unfold A3c;exact inferInstance
inductive C5c(g e f:Addr)(vs:List V)(H:Hp)(Q:VK)(E:XK):Prop
 |mk(c v a b xs ys) (d:Int)(_:vs=[.ref c,.int d])(_:U5 e H c v a b xs ys)(_:xs.length<=900)(_:0<=d)(_:d<=1)(_:V9 g e f H c v b xs ys (⟨.end_,d,0,0⟩,["split"]) Q E)
def J2z:B9 Q5 Q5 (A5 B7w):=scK
def G3x(D:Def K Y "split_to_end" Q5 B7w f fd)(N:Def K Y "end" ["sign"] B9v J i)(M:sI P w K Y Z 3 J i ["sign"] (B5m K U X))(C:A3k P w K Y Z W CB T CW cw):sI P w K Y Z 4 f fd Q5 (C5c U W T):=by
 refine okZ D.F J2z ?_
 rintro _ _ _ _ H _ Q E l j⟨c,v,a,b,xs,ys,s,rfl,m,lx,s0,y,k⟩
 obtain⟨fR,I,A,G,O⟩:=C.raised
 refine⟨_,(A2 (J9 (A2z (pv 0) C.c.cl A G l O .nil j (A0 (G8 (A0 A9 A1)) A1))) (A3 (A7 (B7 N M l j (A0 (pv 1) A1))))),?_⟩
 have r:1<=sizeLine:=C6 (by decide)
 obtain⟨dx,e⟩:=m.ins
 refine⟨rfl,e,A0t,r,fun p z=>?_⟩
 have u:=C9.upd (o:= .lst [.str "split"]) z
 refine⟨c,v.r,v.y,v.l,v.m,a,b,xs,ys,_,rfl,m.same u,by lia,.inl ⟨p,["split"],rfl,A6,by decide,by decide+kernel,fun F a' q x h ct=>?_,fun t B a' d q x h ct nd L=>?_⟩⟩
 . exact⟨_,rfl,.inl ⟨⟨s,rfl,s0,y⟩,fun n R nn s2 g=>k.1 F n a' R (B9x (u.free h)) ((Exc.of u).trans (x.trans (Exc.of s2))) (A2s.same ct s2) g⟩⟩
 exact k.2 t B a' d q (B9x (u.free h)) ((Exc.of u).trans x) ct L
inductive D1z(e:Addr)(vs:List V)(H:Hp)(Q:VK)(_:XK):Prop
 |mk(d c b a)(_:vs=[.ref d,.ref c])(_:Two e H d c b a)(_:Q (.bl (decide (A3c b a))) H)
def J9j:B9 Q3 Q3 (A5 C7j):=scK
def D2x(D:Def K Y "has_plain_quotient" Q3 C7j f fd)(N:Num K Y m):sI P w K Y Z 1 f fd Q3 (D1z m):=by
 refine okZ D.F J9j ?_
 rintro _ _ _ _ H _ Q E q p⟨o,n,c,a,rfl,⟨⟨s,l⟩,⟨r,e⟩⟩,k⟩
 refine⟨_,(A3 (A7 (A7b (V6 D5 (C7 (pv 0) rfl) A9 B8) (A7b (V6 D5 (C7 (pv 1) rfl) A9 B8) (A3y (V6 A5b (C7 (pv 1) rfl) A4 B8)))))),rfl,l,N.cl,N.n1,A1a _ _ _ _,rfl,rfl,G5 (fun h=>?_) (fun h=>?_)⟩
 . have j:c.k= .plain:=eqS (b:= .plain) h
   refine⟨rfl,e,N.cl,N.n1,A1a _ _ _ _,rfl,rfl,G5 (fun h'=>?_) (fun h'=>?_)⟩
   . have i:a.k= .plain:=eqS (b:= .plain) h'
     refine⟨rfl,e,N.cl,N.n3,A1z,rfl,?_⟩
     by_cases d:a.f=0
     . rw[aI (fun z=>z.2.2 d:¬A3c c a)] at k
       rw[aT (aM V.int d)]
       exact k
     . have g:A3c c a:=⟨j,i,d⟩
       rw[aT g] at k
       rw[aI (fun z=>d (V.int.inj z):¬V.int a.f=V.int 0)]
       exact k
   . rw[aI (fun z=>h' (by rw[z.2.1];rfl):¬A3c c a)] at k
     exact k
 rw[aI (fun z=>h (by rw[z.1];rfl):¬A3c c a)] at k
 exact k
inductive D1u(h j k:Addr)(vs:List V)(H:Hp)(Q:VK)(E:XK):Prop
 |mk(c v a b xs ys g f e d) (i:Int)(_:vs=[.ref c,.ref g,.ref f,.int i])(_:U5 j H c v a b xs ys)(_:v.Ok)(_:xs.length<=900)(_:V7 xs=xs)(_:Two h H g f e d)(_:V9 h j k H c v b xs ys (D8a v e d i) Q E)
def scOddQ:B9 ["context","one","other","ideal","sign"] Q33 (A5 C7e):=scK
def J5s(D:Def K Y "odd_quotient" Q33 C7e f fd)(dC:Def K Y "unlike_sign" Q3 A7c f1 B)(dE:sI P w K Y Z 1 f1 B Q3 (A9h q))(M:Def K Y "void" ["context"] A6c f2 A)(L:sI P w K Y Z 4 f2 A ["context"] (A5h q C O))(dF:Def K Y "end" ["sign"] B9v X y)(dG:sI P w K Y Z 3 X y ["sign"] (B5m K q xu))(dH:Def K Y "nought" Q11 A1n W x)(dJ:sI P w K Y Z 3 W x Q11 (A2d q C))(dL:Def K Y "split_to_end" Q5 B7w U u)(dM:sI P w K Y Z 4 U u Q5 (C5c q C O))(N:Num K Y q):
   sI P w K Y Z 5 f fd Q33 (D1u q C O):=by
 refine okZ D.F scOddQ ?_
 rintro _ _ _ _ H _ Q E o m⟨c,v,a,b,xs,ys,T,R,e,d,i,rfl,p,ok,s,G,F,k⟩
 refine⟨_,(A2 (psz (i:=4) scOddQ.nd (B7 dC dE o m (A0 (pv 1) (A0 (pv 2) A1)))) (A2 (D3 (B5 D5 (C7 (pv 1) rfl) A9 B8) (A3 (A7 (G6 (B5 D5 (C7 (pv 2) rfl) A9 B8) (B7 M L o m (A0 (pv 0) A1)) (B7 dF dG o m (A0 (pv 4) A1))))) C0) (A2 (D3 (B5 D5 (C7 (pv 2) rfl) A9 B8) (A3 (A7 (B7 dH dJ o m (A0 (pv 0) (A0 (pv 4) (A0 (pv 3) A1)))))) C0) (A3 (A7 (G6 (B5 D5 (C7 (pv 1) rfl) A4 B8) (B7 M L o m (A0 (pv 0) A1)) (B7 dL dM o m (A0 (pv 0) (A0 (pv 4) A1))))))))),?_⟩
 have us:=B8a e.s d.s
 unfold D8a at k
 refine⟨T,R,e,d,rfl,F,?_⟩
 obtain⟨⟨d1,J⟩,⟨d2,I⟩⟩:=id F
 refine⟨rfl,J,N.cl,N.n1,A1a _ _ _ _,rfl,rfl,G5 (fun h=>?_) (fun h=>?_)⟩
 . have t:e.k= .end_:=eqS (b:= .end_) h
   rw[aC t] at k
   refine⟨rfl,I,N.cl,N.n1,A1a _ _ _ _,rfl,rfl,G5 (fun h'=>?_) (fun h'=>?_)⟩
   . have l:d.k= .end_:=eqS (b:= .end_) h'
     rw[aC l] at k
     exact⟨c,v,a,b,xs,ys,rfl,p,s,k⟩
   . have l:d.k≠ .end_:=neS (b:= .end_) h'
     rw[aA l] at k
     exact⟨_,rfl,.inl ⟨⟨_,rfl,us.1,us.2⟩,fun n H' nn r g=>k.calm G r p g⟩⟩
 have t:e.k≠ .end_:=neS (b:= .end_) h
 rw[aA t] at k
 refine⟨rfl,I,N.cl,N.n1,A1a _ _ _ _,rfl,rfl,G5 (fun h'=>?_) (fun h'=>?_)⟩
 . have l:d.k= .end_:=eqS (b:= .end_) h'
   rw[aC l] at k
   exact⟨c,v,a,b,xs,ys,A6d e.s d.s,i,rfl,p,fun n H' nn r g=>k.calm G r p g⟩
 have l:d.k≠ .end_:=neS (b:= .end_) h'
 rw[aA l] at k
 refine⟨rfl,J,N.cl,N.n3,A1z,rfl,rfl,G5 (fun j=>?_) (fun j=>?_)⟩
 . have j:e.f=0:=V.int.inj j
   rw[aC j] at k
   exact⟨c,v,a,b,xs,ys,rfl,p,s,k⟩
 have j:¬e.f=0:=fun z=>j (aM V.int z)
 rw[aA j] at k
 exact⟨c,v,a,b,xs,ys,_,rfl,p,s,us.1,us.2,k⟩
abbrev D4d:Stmt:=(top 70)
def D3s(v:Cv)(a b:Nm)(L:Int):Nm×List Str:=
 if a.k= .none\/b.k= .none then(Z5,[])
 else if A3c a b then(if a.f=0 then(A2f v (A6d a.s b.s) (a.p-b.p),[]) else A3m v (A6d a.s b.s) a.f b.f (a.p-b.p) L (a.p-b.p))
 else D8a v a b (v.l-v.r+1)
inductive G5f(h i j:Addr)(vs:List V)(H:Hp)(Q:VK)(E:XK):Prop
 |mk(c v a b xs ys g f d e L)(_:vs=[.ref c,.ref g,.ref f])(_:U5 i H c v a b xs ys)(_:v.Ok)(_:xs.length<=900)(_:V7 xs=xs)(_:Two h H g f d e)(_:d.Ok)(_:e.Ok)(_:A3c d e ->d.f≠0 ->A0c d.f e.f (d.p-e.p-L))(_:V9 h i j H c v b xs ys (D3s v d e L) Q E)
def scOver:B9 ["context","one","other","sign","ideal"] Q0 (A5 D4d):=scK
def J5t{f f1 f2 f3 f4 f5 f6 f7 f8 fR p G CB yo O CW CR CE:Addr}(D:Def K Y "over" Q0 D4d f fd)(dA:Def K Y "need_numbers" ["things"] A2g f1 yi)(dB:sI P w K Y Z 2 f1 yi ["things"] (A2c K p yo))(dC:Def K Y "some_of_kind" Q4 A2p f2 yh)(dE:sI P w K Y Z 1 f2 yh Q4 (A1q p))(dF:Def K Y "has_plain_quotient" Q3 C7j f3 xz)(dG:sI P w K Y Z 1 f3 xz Q3 (D1z p))(dH:Def K Y "odd_quotient" Q33 C7e f4 xy)(dJ:sI P w K Y Z 5 f4 xy Q33 (D1u p G O))(dL:Def K Y "unlike_sign" Q3 A7c f5 xx)(dM:sI P w K Y Z 1 f5 xx Q3 (A9h p))(dN:Def K Y "nought" Q11 A1n f6 xw)(dP:sI P w K Y Z 3 f6 xw Q11 (A2d p G))(dQ:Def K Y "settled" Q14 A2b f7 xv)(dS:sI P w K Y Z 6 f7 xv Q14 (A1r p G O CR))(dU:Def K Y "nothing" [] Z2 f8 xu)(dW:sI P w K Y Z 3 f8 xu [] (Y7 p))(C:A3k P w K Y Z G CB O CW cw)(N:Num K Y p)(MR:B3n P w K Y Z CR fR yu d0 gP vP)(R:B0j K Y CR CE):sI P w K Y Z 7 f fd Q0 (G5f p G O):=by
 refine okZ D.F scOver ?_
 rintro _ _ _ _ H _ Q E m j⟨c,v,a,b,xs,ys,A,y,d,g,L,rfl,M,ok,lx,W,T,J,I,hL,k⟩
 obtain⟨fL,yw,mL,gL,bL⟩:=C.low
 refine⟨_,(A2 (J9 (B7 dA dB m j (A0 (G8 (A0 (pv 1) (A0 (pv 2) A1))) A1))) (A2 (D3 (V3 (B7 dC dE m j (A0 (G8 (A0 (pv 1) (A0 (pv 2) A1))) (A0 A9 A1)))) (A3 (A7 (A2m dU dW m j))) C0) (A2 (D3 (A2t (V3 (B7 dF dG m j (A0 (pv 1) (A0 (pv 2) A1))))) (A3 (A7 (B7 dH dJ m j (A0 (pv 0) (A0 (pv 1) (A0 (pv 2) (A0 (Y6 (pv 0) C.c.cl mL gL m bL .nil j) A1))))))) C0) (A2 (psz (i:=3) scOver.nd (B7 dL dM m j (A0 (pv 1) (A0 (pv 2) A1)))) (A2 (psz (i:=4) scOver.nd (D0 Y4 (C7 (pv 1) rfl) (C7 (pv 2) rfl))) (A2 (D3 (B5 D5 (C7 (pv 1) rfl) A4 B8) (A3 (A7 (B7 dN dP m j (A0 (pv 0) (A0 (pv 3) (A0 (pv 4) A1)))))) C0) (A3 (A7 (B7 dQ dS m j (A0 (pv 0) (A0 (pv 3) (A0 (A0r MR.m MR.g m R.g MR.b3 .nil j (A0 (C7 (pv 1) rfl) (A0 (C7 (pv 2) rfl) (A0 (pv 4) A1)))) (A0 (pv 4) A1))))))))))))),?_⟩
 have z2:2<=sizeLine:=C6 (by decide)
 unfold D3s at k
 refine⟨z2,fun l nl=>?_⟩
 have u:=C9.upd (o:= .lst [.ref A,.ref y]) nl
 refine⟨l,[(A,d),(y,g)],rfl,(Z0 (T.same u) A6).n,.inl ⟨A6,?_⟩⟩
 refine⟨z2,fun l2 X=>?_⟩
 have u2:=u.trans (C9.upd (o:= .lst [.ref A,.ref y]) X)
 refine⟨l2,_,_,rfl,Z0 (T.same u2) A6,(by show 2<=1000;decide),fun H3 s3=>⟨rfl,?_⟩⟩
 rw[A4z]
 have h:=u2.trans s3
 have r:=T.same h
 have t:=M.same h
 refine G5 (fun hn=>?_) (fun hn=>?_)
 . rw[aC hn] at k
   exact⟨rfl,fun n H' nn U x=>k.calm W (h.trans U) M x⟩
 rw[aA hn] at k
 refine⟨A,y,d,g,rfl,r,rfl,?_⟩
 by_cases B:A3c d g
 . rw[aC B] at k
   rw[aT B]
   refine V4 ?_
   refine⟨A,y,d,g,rfl,r,?_⟩
   obtain⟨⟨d1,e1⟩,⟨d2,e2⟩⟩:=id r
   refine⟨rfl,e1,N.cl,N.n4,A0y,rfl,e2,N.cl,N.n4,A0y,rfl,e1,N.cl,N.n3,A1z,rfl,rfl,G5 (fun s=>?_) (fun s=>?_)⟩
   . have s:d.f=0:=V.int.inj s
     rw[aC s] at k
     exact⟨c,v,a,b,xs,ys,A6d d.s g.s,d.p-g.p,rfl,t,fun n H' nn U x=>k.calm W (h.trans U) M x⟩
   . have s:¬d.f=0:=fun z=>s (aM V.int z)
     rw[aA s] at k
     have yn:=J.f0;have ym:=J.f1;have yk:=I.f0;have yj:=I.f1
     have yt:=J.p0;have yr:=J.p1;have yq:=I.p0;have yp:=I.p1
     have z1:Sz d.f:=A8s yn s ym
     have z3:Sz g.f:=A8s yk B.2.2 yj
     have hl:=hL B s
     have ls:=A3e z1 z3 hl
     have fn:=A6g (v:=v) ok ls.1 ls.2 (by lia) (by lia)
     refine⟨rfl,e1,N.cl,N.n3,A1z,rfl,e2,N.cl,N.n3,A1z,fun q dq m1 m2 me=>B0p m1 m2 me fun H4 s4 ra=>⟨rfl,?_⟩⟩
     have F:=h.trans s4
     have us:=B8a d.s g.s
     exact⟨c,v,a,b,xs,ys,q,d.f,g.f,d.p-g.p,L,A6d d.s g.s,d.p-g.p,rfl,M.same F,ok,lx,ra,z1,z3,hl,fn.1,fn.2,us.1,us.2,k.same F⟩
 rw[aA B] at k
 rw[aI B]
 refine Y9 ?_
 obtain⟨dx,e⟩:=t.ins
 exact⟨rfl,e,A0b,c,v.r,v.y,v.l,v.m,a,b,_,_,rfl,t,c,v,a,b,xs,ys,A,y,d,g,_,rfl,t,ok,lx,W,r,k.same h⟩
abbrev A5d:Stmt:=(top 75)
def A1v(b a:Nm):Int:=C4j b.p a.p
def A1b(x:Nm)(q:Int):Int:=x.f*A8 (x.p-q)
def C0j(x:Nm)(q:Int):Int:=if x.s=1 then -A1b x q else A1b x q
def A0n(b a:Nm):Int:=A1b b (A1v b a)/A1b a (A1v b a)
def B4p{x:Nm}{q:Int}(ok:x.Ok):0<=A1b x q:=fC ok.f0 (bB (D7 _))
def A6a{x:Nm}{q:Int}(ok:x.Ok):(if C0j x q<0 then -C0j x q else C0j x q)=A1b x q:=by
 have h:=B4p (q:=q) ok
 unfold C0j
 by_cases a:x.s=1
 . rw[aC a]
   split<;>lia
 rw[aA a]
 split<;>lia
def C5s(b a:Nm):A1v b a<=b.p/\A1v b a<=a.p/\(A1v b a=b.p\/A1v b a=a.p):=by
 unfold A1v C4j
 split<;>lia
def B2w{x:Nm}{q:Int}(ok:x.Ok)(c:x.f≠0)(h:x.p-q<=400):SzL (A1b x q):=by
 have b:=D7 (x.p-q)
 have d:=ok.f0
 refine⟨bT (by lia) b,?_⟩
 have e:A8 (x.p-q)<=A8 400:=Z7 (by lia)
 have a:x.f*A8 (x.p-q)<=(10^60-1)*A8 400:=fT ok.f1 e (bB b) (by decide+kernel)
 exact eF a (by decide+kernel)
inductive B1a(a:Addr)(vs:List V)(H:Hp)(Q:VK)(_:XK):Prop
 |mk(n x) (q:Int)(_:vs=[.ref n,.int q])(_:J0 a H n x)(_:x.Ok)(_:q<=x.p)(_:x.p-q<=400)(_:Q (.int (C0j x q)) H)
def scWholeAt2:B9 Q53 Q12 (A5 A2a):=scK
def C5z(D:Def K Y "whole_at" Q12 A2a f fd)(m:Def K Y "ten_to" ["count"] A1w j c)(l:sI P w K Y Z 2 j c ["count"] A1s)(N:Num K Y o):sI P w K Y Z 3 f fd Q12 (B1a o):=by
 refine okZ D.F scWholeAt2 ?_
 rintro _ _ _ _ H _ Q E g e⟨n,x,q,rfl,a,ok,r,p,k⟩
 refine⟨_,(A2 (psz (i:=2) scWholeAt2.nd (D0 V5 (C7 (pv 0) rfl) (B7 m l g e (A0 (D0 Y4 (C7 (pv 0) rfl) (pv 1)) A1)))) (A3 (A7 (G6 (B5 D5 (C7 (pv 0) rfl) A4 B8) (A5c A2k (pv 2)) (pv 2))))),?_⟩
 obtain⟨s,d⟩:=id a
 have b:IntMulOk x.f (A8 (x.p-q)):=by
   by_cases z:x.f=0
   . rw[z];exact B1b.ok (.inl ⟨by decide,by decide⟩)
   . exact D0c (A8s ok.f0 z ok.f1) (by lia)
 refine⟨rfl,d,N.cl,N.n3,A1z,rfl,d,N.cl,N.n4,A0y,(x.p-q).toNat,(by rw[cC (by lia)];rfl),by lia,b,?_⟩
 unfold C0j at k
 refine⟨rfl,d,N.cl,N.n2,num2 _ _ _ _,rfl,rfl,G5 (fun h=>?_) (fun h=>?_)⟩
 . rw[aC (V.int.inj h)] at k
   exact k
 rw[aA fun z=>h (aM V.int z)] at k
 exact k
inductive A9b(e:Addr)(vs:List V)(H:Hp)(Q:VK)(_:XK):Prop
 |mk(d c b a)(_:vs=[.ref d,.ref c])(_:Two e H d c b a)(_:b.Ok)(_:a.Ok)(_:a.f≠0)(_:Q (.int (A0n b a)) H)
def scWholePart:B9 ["one","other","low"] Q3 (A5 A5d):=scK
def C4d(D:Def K Y "whole_part" Q3 A5d f fd)(p:Def K Y "whole_at" Q12 A2a y g)(o:sI P w K Y Z 3 y g Q12 (B1a r))(N:Num K Y r)(O:Own Y):sI P w K Y Z 4 f fd Q3 (A9b r):=by
 refine okZ D.F scWholePart ?_
 rintro _ _ _ _ H _ Q E n l⟨j,h,b,a,rfl,e,d,c,x,k⟩
 refine⟨_,(A2 (psz (i:=2) scWholePart.nd (G9 (A4r rfl) (by rfl) O.min_ boot_min (A0 (C7 (pv 0) rfl) (A0 (C7 (pv 1) rfl) A1)))) (A3 (A7 (D0 U3 (G9 A4x (by rfl) O.abs_ kD (A0 (B7 p o n l (A0 (pv 0) (A0 (pv 2) A1))) A1)) (G9 A4x (by rfl) O.abs_ kD (A0 (B7 p o n l (A0 (pv 1) (A0 (pv 2) A1))) A1)))))),?_⟩
 obtain⟨⟨F,A⟩,⟨C,z⟩⟩:=id e
 have v:=d.p0;have u:=d.p1;have t:=c.p0;have s:=c.p1
 obtain⟨B,b2,b3⟩:=C5s b a
 refine⟨rfl,A,N.cl,N.n4,A0y,rfl,z,N.cl,N.n4,A0y,_,_,rfl,?_⟩
 show J4s _ _ _ [sr j,sr h,si (A1v b a)] H
 have m:=B2w (q:=A1v b a) c x (by lia)
 refine⟨j,b,A1v b a,rfl,e.1,d,B,by lia,_,rfl,h,a,A1v b a,rfl,e.2,c,b2,by lia,_,rfl,?_,?_⟩
 . rw[A6a c]
   exact⟨m.1,bY m.log (by decide)⟩
 rw[A6a d,A6a c]
 exact k
abbrev A7k:Stmt:=(top 71)
def woR(v:Cv)(b a:Nm)(L:Int):Nm×List Str:=
 if b.k= .none\/a.k= .none then(Z5,[])
 else if A3c b a then
   (if A0n b a>=A8 v.r then(Z5,["void"]) else if A0n b a=0 then(A2f v (A6d b.s a.s) (A2x (b.p-a.p) 0),[]) else A3m v (A6d b.s a.s) (A0n b a) 1 0 L (A2x (b.p-a.p) 0))
 else D8a v b a 0
def V3b(b a:Nm)(L:Int):Prop:=A3c b a ->A0n b a≠0 ->A0c (A0n b a) 1 (0-L)
def C9b{a b:Nm}(c:a.Ok)(d:b.Ok):0<=A0n a b/\A0n a b<A8 500:=by
 have j:=c.p0;have i:=c.p1;have h:=d.p0;have g:=d.p1
 obtain⟨k,b2,b3⟩:=C5s a b
 have f:0<=A0n a b:=iF (B4p c) (B4p d)
 have e:A0n a b<=A1b a (A1v a b):=kE _ (B4p c)
 refine⟨f,eF e ?_⟩
 by_cases z:a.f=0
 . unfold A1b;rw[z,fq];exact D7 _
 exact(B2w c z (by lia)).2
def V1r(i:Int):(if(0:Int)>i then 0 else i)=A2x i 0:=rfl
inductive B5n(h i j:Addr)(vs:List V)(H:Hp)(Q:VK)(E:XK):Prop
 |mk(c v a b xs ys g f e d L)(_:vs=[.ref c,.ref g,.ref f])(_:U5 i H c v a b xs ys)(_:v.Ok)(_:xs.length<=900)(_:V7 xs=xs)(_:Two h H g f e d)(_:e.Ok)(_:d.Ok)(_:V3b e d L)(_:V9 h i j H c v b xs ys (woR v e d L) Q E)
def scWholeOver:B9 ["context","one","other","whole","sign","ideal"] Q0 (A5 A7k):=scK
def C2w{f f1 f2 f3 f4 f5 f6 f7 f8 f9 g1 g2 fR m F CB yo I CW CR CE:Addr}(D:Def K Y "whole_over" Q0 A7k f fd)(dA:Def K Y "need_numbers" ["things"] A2g f1 yn)(dB:sI P w K Y Z 2 f1 yn ["things"] (A2c K m yo))(dC:Def K Y "some_of_kind" Q4 A2p f2 ym)(dE:sI P w K Y Z 1 f2 ym Q4 (A1q m))(dF:Def K Y "has_plain_quotient" Q3 C7j f3 yk)(dG:sI P w K Y Z 1 f3 yk Q3 (D1z m))(dH:Def K Y "odd_quotient" Q33 C7e f4 yj)(dJ:sI P w K Y Z 5 f4 yj Q33 (D1u m F I))(dL:Def K Y "unlike_sign" Q3 A7c f5 yi)(dM:sI P w K Y Z 1 f5 yi Q3 (A9h m))(dN:Def K Y "nought" Q11 A1n f6 yh)(dP:sI P w K Y Z 3 f6 yh Q11 (A2d m F))(dQ:Def K Y "settled" Q14 A2b f7 xz)(dS:sI P w K Y Z 6 f7 xz Q14 (A1r m F I CR))(dU:Def K Y "nothing" [] Z2 f8 xy)(dW:sI P w K Y Z 3 f8 xy [] (Y7 m))(dX:Def K Y "void" ["context"] A6c f9 xx)(dY:sI P w K Y Z 4 f9 xx ["context"] (A5h m F I))(dZ:Def K Y "whole_part" Q3 A5d g1 xw)(gA:sI P w K Y Z 4 g1 xw Q3 (A9b m))(gB:Def K Y "ten_to" ["count"] A1w g2 xv)(gC:sI P w K Y Z 2 g2 xv ["count"] A1s)(C:A3k P w K Y Z F CB I CW cw)(N:Num K Y m)(U:B3n P w K Y Z CR fR yu d0 gP vP)(R:B0j K Y CR CE)(O:Own Y):sI P w K Y Z 7 f fd Q0 (B5n m F I):=by
 refine okZ D.F scWholeOver ?_
 rintro _ _ _ _ H _ Q E j h⟨c,v,a,b,xs,ys,y,x,e,d,L,rfl,T,ok,lx,ox,W,M,J,hL,k⟩
 have V2:U7 [.int 0] [d0]:= .cons U.r0 .nil
 refine⟨_,(A2 (J9 (B7 dA dB j h (A0 (G8 (A0 (pv 1) (A0 (pv 2) A1))) A1))) (A2 (D3 (V3 (B7 dC dE j h (A0 (G8 (A0 (pv 1) (A0 (pv 2) A1))) (A0 A9 A1)))) (A3 (A7 (A2m dU dW j h))) C0) (A2 (D3 (A2t (V3 (B7 dF dG j h (A0 (pv 1) (A0 (pv 2) A1))))) (A3 (A7 (B7 dH dJ j h (A0 (pv 0) (A0 (pv 1) (A0 (pv 2) (A0 A4 A1))))))) C0) (A2 (psz (i:=3) scWholeOver.nd (B7 dZ gA j h (A0 (pv 1) (A0 (pv 2) A1)))) (A2 (D3 (B5 B1s (pv 3) (B7 gB gC j h (A0 (C7 (pv 0) rfl) A1)) B8) (A3 (A7 (B7 dX dY j h (A0 (pv 0) A1)))) C0) (A2 (psz (i:=4) scWholeOver.nd (B7 dL dM j h (A0 (pv 1) (A0 (pv 2) A1)))) (A2 (psz (i:=5) scWholeOver.nd (G9 (A2r rfl) (by rfl) O.max_ jQ (A0 (D0 Y4 (C7 (pv 1) rfl) (C7 (pv 2) rfl)) (A0 A4 A1)))) (A2 (D3 (B5 D5 (pv 3) A4 B8) (A3 (A7 (B7 dN dP j h (A0 (pv 0) (A0 (pv 4) (A0 (pv 5) A1)))))) C0) (A3 (A7 (B7 dQ dS j h (A0 (pv 0) (A0 (pv 4) (A0 (A0r U.m U.g j R.g U.b2 V2 h (A0 (pv 3) (A0 A4 A1))) (A0 (pv 5) A1))))))))))))))),?_⟩
 have z2:2<=sizeLine:=C6 (by decide)
 unfold woR at k
 refine⟨z2,fun l nl=>?_⟩
 have u:=C9.upd (o:= .lst [.ref y,.ref x]) nl
 refine⟨l,[(y,e),(x,d)],rfl,(Z0 (W.same u) A6).n,.inl ⟨A6,?_⟩⟩
 refine⟨z2,fun l2 xu=>?_⟩
 have u2:=u.trans (C9.upd (o:= .lst [.ref y,.ref x]) xu)
 refine⟨l2,_,_,rfl,Z0 (W.same u2) A6,(by show 2<=1000;decide),fun H3 s3=>⟨rfl,?_⟩⟩
 rw[A4z]
 have g:=u2.trans s3
 have p:=W.same g
 have r:=T.same g
 refine G5 (fun hn=>?_) (fun hn=>?_)
 . rw[aC hn] at k
   exact⟨rfl,fun n H' nn X t=>k.calm ox (g.trans X) T t⟩
 rw[aA hn] at k
 refine⟨y,x,e,d,rfl,p,rfl,?_⟩
 by_cases B:A3c e d
 . rw[aC B] at k
   rw[aT B]
   refine V4 ?_
   have r1:=ok.r1;have r2:=ok.r2
   obtain⟨w0,w1⟩:=C9b M J
   have us:=B8a e.s d.s
   have yt:=M.p0;have yr:=M.p1;have yq:=J.p0;have yp:=J.p1
   obtain⟨dx,ec⟩:=r.ins
   refine⟨y,x,e,d,rfl,p,M,J,B.2.2,rfl,ec,C.c.cl,C.c.n_room,A0f,v.r.toNat,(by rw[cC (by lia)];rfl),by lia,rfl,G5 (fun A=>?_) (fun A=>?_)⟩
   . have A:A0n e d>=A8 v.r:=A
     rw[aC A] at k
     exact⟨c,v,a,b,xs,ys,rfl,r,lx,k.same g⟩
   have A:¬A0n e d>=A8 v.r:=A
   rw[aA A] at k
   refine⟨y,x,e,d,rfl,p,?_⟩
   obtain⟨⟨d1,e1⟩,⟨d2,e2⟩⟩:=id p
   refine⟨rfl,e1,N.cl,N.n4,A0y,rfl,e2,N.cl,N.n4,A0y,_,_,rfl,?_⟩
   rw[V1r]
   have mb:0<=A2x (e.p-d.p) 0/\A2x (e.p-d.p) 0<=400:=by unfold A2x;split<;>lia
   refine⟨rfl,rfl,G5 (fun s=>?_) (fun s=>?_)⟩
   . have s:A0n e d=0:=V.int.inj s
     rw[aC s] at k
     exact⟨c,v,a,b,xs,ys,A6d e.s d.s,A2x (e.p-d.p) 0,rfl,r,fun n H' nn X t=>k.calm ox (g.trans X) T t⟩
   . have s:¬A0n e d=0:=fun z=>s (aM V.int z)
     rw[aA s] at k
     have zl:SzL (A0n e d):=⟨by lia,w1⟩
     have hl:=hL B s
     have ls:=A3e zl.sz Z4 hl
     have fn:=A6g (v:=v) ok ls.1 ls.2 (by decide) (by decide)
     refine fun q dq m1 m2 me=>B0p m1 m2 me fun H4 s4 ra=>⟨rfl,?_⟩
     have G:=g.trans s4
     exact⟨c,v,a,b,xs,ys,q,A0n e d,1,0,L,A6d e.s d.s,A2x (e.p-d.p) 0,rfl,T.same G,ok,lx,ra,zl.sz,Z4,hl,fn.1,fn.2,us.1,us.2,k.same G⟩
 rw[aA B] at k
 rw[aI B]
 refine Y9 ?_
 exact⟨c,v,a,b,xs,ys,y,x,e,d,0,rfl,r,ok,lx,ox,p,k.same g⟩
abbrev B6m:Stmt:=(top 72)
def A7z(a b:Nm):Nm:=⟨.plain,a.s,A1b a (A1v a b)-A0n a b*A1b b (A1v a b),A1v a b⟩
def A4y(b a:Nm):Nm:=if a.k= .end_ then b else A7z b a
def reR(v:Cv)(b a:Nm)(L:Int):Nm×List Str:=
 if b.k= .none\/a.k= .none then(Z5,[])
 else if b.k= .end_ then(Z5,["void"])
 else if a.k= .plain/\a.f=0 then(Z5,["void"])
 else if a.k= .end_ then A4b v b L
 else if A0n b a>=A8 v.r then(Z5,["void"]) else A4b v (A7z b a) L
def J8w(b a:Nm)(L:Int):Prop:=(A4y b a).k= .plain ->(A4y b a).f≠0 ->A0c (A4y b a).f 1 ((A4y b a).p-L)
def C8v{b a:Nm}(d:b.Ok)(c:a.Ok)(l:a.f≠0):0<=(A7z b a).f/\(A7z b a).f<A8 500/\ -200<=(A7z b a).p/\(A7z b a).p<=200/\(A7z b a).f=A1b b (A1v b a) % A1b a (A1v b a):=by
 have j:=d.p0;have i:=d.p1;have h:=c.p0;have g:=c.p1
 obtain⟨o,b2,b3⟩:=C5s b a
 have f:=B2w (q:=A1v b a) c l (by lia)
 have e:A1b b (A1v b a)-A0n b a*A1b a (A1v b a)=A1b b (A1v b a) % A1b a (A1v b a):=by
   unfold A0n
   rw[Int.emod_def,Int.mul_comm]
 have s0:0<A1b a (A1v b a):=f.1
 have k:=eC (A1b b (A1v b a)) (iR s0)
 have m:=cQ (A1b b (A1v b a)) s0
 have n:=f.2
 unfold A7z
 dsimp only
 rw[e]
 exact⟨k,by lia,by lia,by lia,rfl⟩
inductive G4u(h i j:Addr)(vs:List V)(H:Hp)(Q:VK)(E:XK):Prop
 |mk(c v a b xs ys g f e d L)(_:vs=[.ref c,.ref g,.ref f])(_:U5 i H c v a b xs ys)(_:v.Ok)(_:xs.length<=900)(_:V7 xs=xs)(_:Two h H g f e d)(_:e.Ok)(_:d.Ok)(_:J8w e d L)(_:V9 h i j H c v b xs ys (reR v e d L) Q E)
def scRestOf:B9 ["context","one","other","whole","low","left"] Q0 (A5 B6m):=scK
def D6p(D:Def K Y "rest_of" Q0 B6m f fd)(dH:Def K Y "need_numbers" ["things"] A2g f1 yq)(dJ:sI P w K Y Z 2 f1 yq ["things"] (A2c K y zc))(dL:Def K Y "some_of_kind" Q4 A2p f2 yp)(dM:sI P w K Y Z 1 f2 yp Q4 (A1q y))(dN:Def K Y "nothing" [] Z2 f3 yo)(dP:sI P w K Y Z 3 f3 yo [] (Y7 y))(dA:Def K Y "void" ["context"] A6c f4 yn)(dB:sI P w K Y Z 4 f4 yn ["context"] (A5h y CC CT))(dC:Def K Y "rounded" Q9 A3s f5 ym)(dE:sI P w K Y Z 7 f5 ym Q9 (A3x y CC CT))(dQ:Def K Y "whole_part" Q3 A5d f6 yk)(dS:sI P w K Y Z 4 f6 yk Q3 (A9b y))(dU:Def K Y "ten_to" ["count"] A1w f7 yj)(dW:sI P w K Y Z 2 f7 yj ["count"] A1s)(dF:Def K Y "whole_at" Q12 A2a f8 yi)(dG:sI P w K Y Z 3 f8 yi Q12 (B1a y))(C:A3k P w K Y Z CC CB CT CW cw)(N:Num K Y y)(M:A4g P w K Y Z y fI yz)(O:Own Y):sI P w K Y Z 8 f fd Q0 (G4u y CC CT):=by
 refine okZ D.F scRestOf ?_
 rintro _ _ _ _ H _ Q E s r⟨c,v,a,b,xs,ys,G,R,g,e,L,rfl,hc,ok,U,ox,tw,m,A,hL,k⟩
 refine⟨_,(A2 (J9 (B7 dH dJ s r (A0 (G8 (A0 (pv 1) (A0 (pv 2) A1))) A1))) (A2 (D3 (V3 (B7 dL dM s r (A0 (G8 (A0 (pv 1) (A0 (pv 2) A1))) (A0 A9 A1)))) (A3 (A7 (A2m dN dP s r))) C0) (A2 (D3 (PW.pt (B0s (B5 D5 (C7 (pv 1) rfl) A9 B8) (A6u (PW.pt (A5u (B5 D5 (C7 (pv 2) rfl) A9 B8) (A3p (B5 D5 (C7 (pv 2) rfl) A4 B8))))))) (A3 (A7 (B7 dA dB s r (A0 (pv 0) A1)))) C0) (A2 (D3 (B5 D5 (C7 (pv 2) rfl) A9 B8) (A3 (A7 (B7 dC dE s r (A0 (pv 0) (A0 (pv 1) A1))))) C0) (A2 (psz (i:=3) scRestOf.nd (B7 dQ dS s r (A0 (pv 1) (A0 (pv 2) A1)))) (A2 (D3 (B5 B1s (pv 3) (B7 dU dW s r (A0 (C7 (pv 0) rfl) A1)) B8) (A3 (A7 (B7 dA dB s r (A0 (pv 0) A1)))) C0) (A2 (psz (i:=4) scRestOf.nd (G9 (A4r rfl) (by rfl) O.min_ boot_min (A0 (C7 (pv 1) rfl) (A0 (C7 (pv 2) rfl) A1)))) (A2 (psz (i:=5) scRestOf.nd (D0 Y4 (G9 A4x (by rfl) O.abs_ kD (A0 (B7 dF dG s r (A0 (pv 1) (A0 (pv 4) A1))) A1)) (D0 V5 (pv 3) (G9 A4x (by rfl) O.abs_ kD (A0 (B7 dF dG s r (A0 (pv 2) (A0 (pv 4) A1))) A1))))) (A3 (A7 (B7 dC dE s r (A0 (pv 0) (A0 (A0r M.m (B0.up M.g) s N.g M.b .nil r (A0 A9 (A0 (C7 (pv 1) rfl) (A0 (pv 5) (A0 (pv 4) A1))))) A1))))))))))))),?_⟩
 have z2:2<=sizeLine:=C6 (by decide)
 unfold reR at k
 refine⟨z2,fun l nl=>?_⟩
 have u:=C9.upd (o:= .lst [.ref G,.ref R]) nl
 refine⟨l,[(G,g),(R,e)],rfl,(Z0 (tw.same u) A6).n,.inl ⟨A6,?_⟩⟩
 refine⟨z2,fun l2 xv=>?_⟩
 have u2:=u.trans (C9.upd (o:= .lst [.ref G,.ref R]) xv)
 refine⟨l2,_,_,rfl,Z0 (tw.same u2) A6,(by show 2<=1000;decide),fun H3 s3=>⟨rfl,?_⟩⟩
 rw[A4z]
 have j:=u2.trans s3
 have t:=tw.same j
 have p:=hc.same j
 obtain⟨⟨d1,e1⟩,⟨d2,X⟩⟩:=id t
 obtain⟨dx,ec⟩:=p.ins
 refine G5 (fun W=>?_) (fun W=>?_)
 . rw[aC W] at k
   exact⟨rfl,fun n H' nn s' xu=>k.calm ox (j.trans s') hc xu⟩
 rw[aA W] at k
 have yh:g.k≠ .none:=fun z=>W (.inl z)
 have xz:e.k≠ .none:=fun z=>W (.inr z)
 have yx:=m.p0;have yw:=m.p1;have yu:=A.p0;have yt:=A.p1
 have r1:=ok.r1;have r2:=ok.r2
 obtain⟨xy,xx,yy⟩:=C5s g e
 have zb:(10:Int)^60<=A8 500:=by decide+kernel
 refine⟨rfl,e1,N.cl,N.n1,A1a _ _ _ _,rfl,rfl,G5 (fun F=>Y9 ?_) (fun F=>?_)⟩
 . have F:g.k= .end_:=eqS (b:= .end_) F
   rw[aC F] at k
   exact⟨c,v,a,b,xs,ys,rfl,p,U,k.same j⟩
 have F:g.k≠ .end_:=neS (b:= .end_) F
 rw[aA F] at k
 have p1:g.k= .plain:=by
   cases h:g.k with
   |plain=>rfl
   |end_=>exact absurd h F
   |none=>exact absurd h yh
 have za:=m.f1
 refine⟨rfl,X,N.cl,N.n1,A1a _ _ _ _,rfl,rfl,G5 (fun B=>?_) (fun B=>?_)⟩
 . have B:e.k= .plain:=eqS (b:= .plain) B
   refine⟨rfl,X,N.cl,N.n3,A1z,rfl,rfl,G5 (fun x=>?_) (fun x=>?_)⟩
   . have x:e.f=0:=V.int.inj x
     rw[aC ⟨B,x⟩] at k
     exact⟨c,v,a,b,xs,ys,rfl,p,U,k.same j⟩
   have x:¬e.f=0:=fun z=>x (aM V.int z)
   have J:e.k≠ .end_:=fun z=>by rw[B] at z;cases z
   rw[aA (fun z=>x z.2),aA J] at k
   refine⟨rfl,X,N.cl,N.n1,A1a _ _ _ _,rfl,rfl,Y0 (fun z=>J (eqS (b:= .end_) z)) ?_⟩
   refine⟨G,R,g,e,rfl,t,m,A,x,rfl,ec,C.c.cl,C.c.n_room,A0f,v.r.toNat,(by rw[cC (by lia)];rfl),by lia,rfl,G5 (fun I=>?_) (fun I=>?_)⟩
   . have I:A0n g e>=A8 v.r:=I
     rw[aC I] at k
     exact⟨c,v,a,b,xs,ys,rfl,p,U,k.same j⟩
   have I:¬A0n g e>=A8 v.r:=I
   rw[aA I] at k
   have yr:=A5s r2
   obtain⟨g0,g1,g2,g3,g4⟩:=C8v m A x
   have hs:=B2w (q:=A1v g e) A x (by lia)
   have w0:0<=A0n g e:=iF (B4p m) (B4p A)
   have xw:IntMulOk (A0n g e) (A1b e (A1v g e)):=by
     by_cases z:A0n g e=0
     . rw[z];exact B1b.ok (.inl ⟨by decide,by decide⟩)
     . have zs:Sz (A0n g e):=⟨by lia,fA (show A0n g e<10^24 by lia) (by decide+kernel)⟩
       exact fz (C3k zs) (C3k hs.sz)
   refine⟨rfl,e1,N.cl,N.n4,A0y,rfl,X,N.cl,N.n4,A0y,_,_,rfl,?_⟩
   show J4s _ _ _ [sr c,sr G,sr R,si (A0n g e),si (A1v g e),none] H3
   refine⟨G,g,A1v g e,rfl,t.1,m,xy,by lia,_,rfl,R,e,A1v g e,rfl,t.2,A,xx,by lia,_,rfl,(by rw[A6a A];exact xw),?_⟩
   rw[A6a m,A6a A]
   refine⟨rfl,e1,N.cl,N.n2,num2 _ _ _ _,?_⟩
   refine A3r (Q:=fun u H'=>A3x y CC CT ([V.ref c,u]++ []) H' Q (fun C d H'=>E C d H')) fun n' H4 nn s4 T=>?_
   exact⟨c,v,a,b,xs,ys,n',A7z g e,L,rfl,p.same s4,ok,U,ox,T,m.s0,m.s1,g0,g1,by lia,by lia,(by have:=hL;unfold J8w A4y at this;rw[aA J] at this;exact this),k.same (j.trans s4)⟩
 have B:e.k≠ .plain:=neS (b:= .plain) B
 have J:e.k= .end_:=by
   cases h:e.k with
   |plain=>exact absurd h B
   |end_=>rfl
   |none=>exact absurd h xz
 rw[aA (fun z=>B z.1),aC J] at k
 refine V4 ⟨rfl,X,N.cl,N.n1,A1a _ _ _ _,rfl,rfl,Y8 (by rw[J];rfl) ?_⟩
 exact⟨c,v,a,b,xs,ys,G,g,L,rfl,p,ok,U,ox,t.1,m.s0,m.s1,m.f0,by lia,by lia,by lia,(by have:=hL;unfold J8w A4y at this;rw[aC J] at this;exact this),k.same j⟩
abbrev D3t:Stmt:=(top 91)
def D8v{t s s0 r:Int}(o:1<=t)(h:A5y t s0)(A:1<=r)(e:s<=s0+2*(r-1)):whQ t s<A8 r:=by
 have l:=B2y (s:=s) o
 have i:=D7 (-s)
 have j:t*A8 s<A8 (2*r)*A8 (-s):=by
   have f:=D7 (-s0)
   by_cases p:s0<=s
   . have c:=A2j p
     have q:t*A8 s*A8 (-s0)=t*A8 s0*A8 (-s)*A8 (s-s0):=by
       calc t*A8 s*A8 (-s0)=t*(A8 s*A8 (-s0)):=by ac_rfl
         _=t*(A8 s0*A8 (-s)*A8 (s-s0)):=by rw[c]
         _=t*A8 s0*A8 (-s)*A8 (s-s0):=by ac_rfl
     have k:t*A8 s0*A8 (-s)<100*A8 (-s0)*A8 (-s):=cE h.2 i
     have y:t*A8 s0*A8 (-s)*A8 (s-s0)<100*A8 (-s0)*A8 (-s)*A8 (s-s0):=cE k (D7 _)
     have g:A8 (s-s0)<=A8 (2*(r-1)):=Z7 (by lia)
     have x:100*A8 (-s0)*A8 (-s)*A8 (s-s0)<=100*A8 (-s0)*A8 (-s)*A8 (2*(r-1)):=cB g (bB (bT (bT (by decide) f) i))
     have v:A8 (2*r)=100*A8 (2*(r-1)):=by
       unfold A8
       rw[show(2*r).toNat=(2*(r-1)).toNat+2 by lia,cN,kK,Int.mul_comm]
       rfl
     have m:100*A8 (-s0)*A8 (-s)*A8 (2*(r-1))=A8 (2*r)*A8 (-s)*A8 (-s0):=by rw[v];ac_rfl
     exact eS (by rw[q, <-m];lia) (bB f)
   . have c:=A2j (show s<=s0 by lia)
     have q:t*A8 s0*A8 (-s)=t*A8 s*A8 (-s0)*A8 (s0-s):=by
       calc t*A8 s0*A8 (-s)=t*(A8 s0*A8 (-s)):=by ac_rfl
         _=t*(A8 s*A8 (-s0)*A8 (s0-s)):=by rw[c]
         _=t*A8 s*A8 (-s0)*A8 (s0-s):=by ac_rfl
     have k:t*A8 s0*A8 (-s)<100*A8 (-s0)*A8 (-s):=cE h.2 i
     have d:=D7 (s0-s)
     have y:t*A8 s*A8 (-s0)*1<=t*A8 s*A8 (-s0)*A8 (s0-s):=cB (by lia) (bB (bT (bT (by lia) (D7 _)) f))
     have g:100<=A8 (2*r):=by
       have:A8 2<=A8 (2*r):=Z7 (by lia)
       have e:A8 2=100:=rfl
       lia
     have x:100*(A8 (-s0)*A8 (-s))<=A8 (2*r)*(A8 (-s0)*A8 (-s)):=bC g (bB (bT f i))
     have m:100*A8 (-s0)*A8 (-s)=100*(A8 (-s0)*A8 (-s)):=by ac_rfl
     have u:A8 (2*r)*(A8 (-s0)*A8 (-s))=A8 (2*r)*A8 (-s)*A8 (-s0):=by ac_rfl
     exact eS (a:=A8 (-s0)) (by rw[q] at k;rw[<-u];lia) (bB f)
 apply aX
 intro z
 have w:A8 r<=whQ t s:=by lia
 have n:A8 r*A8 r<=whQ t s*whQ t s:=fT w w (bB (D7 _)) l.1
 have e:A8 (2*r)=A8 r*A8 r:=by
   unfold A8
   rw[<-kK, <-cN]
   congr 2
   lia
 have:=l.2.1
 have b:A8 r*A8 r*A8 (-s)<=whQ t s*whQ t s*A8 (-s):=bC n (bB i)
 rw[e] at j
 lia
def C6f{v:Cv}{t n L:Int}(ok:v.Ok)(a:SzQ t)(ld:A5y t (n-2*L))(f: -200<=n)(e:n<=200): -200<=n-2*v.fin L/\n-2*v.fin L<=200/\whQ t (n-2*v.fin L)<A8 v.r:=by
 have g:=C5x a ld
 have c:=ok.r1;have d:=ok.r2;have i:=ok.l1;have h:=ok.l2
 have b:=D8v (s:=n-2*v.fin L) (r:=v.r) a.1 ld c (by
   unfold Cv.fin A2x
   split<;>lia)
 refine⟨?_,?_,b⟩
 . unfold Cv.fin A2x
   split<;>lia
 unfold Cv.fin A2x
 split<;>lia
def setQ(v:Cv)(x:Nm)(L:Int):Nm×List Str:=A6s v 0 (whQ x.f (x.p-2*v.fin L)) (D0p x.f (x.p-2*v.fin L) (whQ x.f (x.p-2*v.fin L))) L (v.fin L) (x.p/2)
def rootA(v:Cv)(x:Nm)(L:Int):Nm×List Str:=if x.k= .none then(Z5,[]) else if x.k= .plain/\x.f=0 then(A2f v x.s (x.p/2),[]) else if x.s=1 then(Z5,["void"]) else if x.k= .end_ then(x,[]) else setQ v x L
def U5t(x:Nm)(L:Int):Prop:=x.k= .plain ->x.f≠0 ->A5y x.f (x.p-2*L)
inductive G5b(K:Frag)(e f g CB:Addr)(vs:List V)(H:Hp)(Q:VK)(E:XK):Prop
 |mk(c d)(_:vs=[.ref c,d])(_:(∃v a b xs ys n x L,d= .ref n/\U5 f H c v a b xs ys/\v.Ok/\xs.length<=900/\V7 xs=xs/\J0 e H n x/\x.Ok/\U5t x L/\V9 e f g H c v b xs ys (rootA v x L) Q E)\/(A1k K e H d/\E (.ref CB) none H))
def J9s:B9 Q10 Q10 (A5 D3t):=scK
def J3k{f f1 f2 f3 f4 f5 fQ e C F I o CE:Addr}(D:Def K Y "root" Q10 D3t f fd)(dA:Def K Y "need_number" ["thing"] A3h f1 xx)(dB:sI P w K Y Z 1 f1 xx ["thing"] (A2w K e F))(dC:Def K Y "nothing" [] Z2 f2 xw)(dE:sI P w K Y Z 3 f2 xw [] (Y7 e))(dF:Def K Y "nought" Q11 A1n f3 xv)(dG:sI P w K Y Z 3 f3 xv Q11 (A2d e C))(dH:Def K Y "void" ["context"] A6c f4 xu)(dJ:sI P w K Y Z 4 f4 xu ["context"] (A5h e C I))(dL:Def K Y "settled" Q14 A2b f5 X)(dM:sI P w K Y Z 6 f5 X Q14 (B1c e C I o (A9a o) (C7x o)))(N:Num K Y e)(MQ:J7u P w K Y Z o fQ yj d0 gP vP)(RQ:D8x K Y o CE):sI P w K Y Z 7 f fd Q10 (G5b K e C I F):=by
 refine okZ D.F J9s ?_
 rintro _ A _ s H _ Q E k j⟨c,v1,rfl,h⟩
 refine⟨_,(A2 (J9 (B7 dA dB k j (A0 (pv 1) A1))) (A2 (D3 (B5 D5 (C7 (pv 1) rfl) A9 B8) (A3 (A7 (A2m dC dE k j))) C0) (A2 (D3 (PW.pt (A5u (B5 D5 (C7 (pv 1) rfl) A9 B8) (A3p (B5 D5 (C7 (pv 1) rfl) A4 B8)))) (A3 (A7 (B7 dF dG k j (A0 (pv 0) (A0 (C7 (pv 1) rfl) (A0 (D0 U3 (C7 (pv 1) rfl) A4) A1)))))) C0) (A2 (D3 (B5 D5 (C7 (pv 1) rfl) A4 B8) (A3 (A7 (B7 dH dJ k j (A0 (pv 0) A1)))) C0) (A2 (D3 (B5 D5 (C7 (pv 1) rfl) A9 B8) (A3 (A7 (pv 1))) C0) (A3 (A7 (B7 dL dM k j (A0 (pv 0) (A0 A4 (A0 (A0r MQ.m MQ.g k RQ.g MQ.b3 .nil j (A0 (C7 (pv 1) rfl) (A0 (C7 (pv 1) rfl) A1))) (A0 (D0 U3 (C7 (pv 1) rfl) A4) A1)))))))))))),?_⟩
 rcases h with⟨v,a,b,xs,ys,n,x,L,rfl,l,ok,lx,U,G,i,hL,kk⟩|⟨bad,kk⟩
 . obtain⟨dn,d⟩:=id G
   have M:=i.p0;have J:=i.p1;have yi:=i.f0;have O:=i.f1;have yh:=i.s0;have xz:=i.s1
   have d2:(0:Int)<2/\(2:Int).natAbs.log2<9000:=⟨by decide,by decide+kernel⟩
   refine⟨_,rfl,.inl ⟨n,_,_,_,_,rfl,G,?_⟩⟩
   unfold rootA at kk
   refine⟨rfl,d,N.cl,N.n1,A1a _ _ _ _,rfl,rfl,G5 (fun h=>?_) (fun h=>?_)⟩
   . rw[aC (eqS (b:= .none) h)] at kk
     exact⟨rfl,fun m H' nm R g=>kk.calm U R l g⟩
   have h1:x.k≠ .none:=neS (b:= .none) h
   rw[aA h1] at kk
   have r:∀(_:¬(x.k= .plain/\x.f=0)),V9 e C I H c v b xs ys (if x.s=1 then(Z5,["void"]) else if x.k= .end_ then(x,[]) else setQ v x L) Q E:=fun y=>by
     rw[aA y] at kk
     exact kk
   refine have els:¬(x.k= .plain/\x.f=0) ->_:= ?els;⟨rfl,d,N.cl,N.n1,A1a _ _ _ _,rfl,rfl,G5 (fun y=>⟨rfl,d,N.cl,N.n3,A1z,rfl,rfl,G5 (fun B=>?A) (fun B=>els fun z=>B (aM V.int z.2))⟩) (fun y=>els fun z=>y (by rw[z.1];rfl))⟩
   case A=>
     rw[aC ⟨eqS (b:= .plain) y,V.int.inj B⟩] at kk
     exact⟨rfl,d,N.cl,N.n2,num2 _ _ _ _,rfl,d,N.cl,N.n4,A0y,d2,c,v,a,b,xs,ys,x.s,x.p/2,rfl,l,fun m H' nm R g=>kk.calm U R l g⟩
   intro u
   have kk:=r u
   refine⟨rfl,d,N.cl,N.n2,num2 _ _ _ _,rfl,rfl,G5 (fun W=>?_) (fun W=>?_)⟩
   . rw[aC (V.int.inj W)] at kk
     exact⟨c,v,a,b,xs,ys,rfl,l,lx,kk⟩
   rw[aA fun z=>W (aM V.int z)] at kk
   refine⟨rfl,d,N.cl,N.n1,A1a _ _ _ _,rfl,rfl,G5 (fun he=>?_) (fun he=>?_)⟩
   . rw[aC (eqS (b:= .end_) he)] at kk
     exact kk.calm U (C9.refl _) l G
   have h2:x.k≠ .end_:=neS (b:= .end_) he
   rw[aA h2] at kk
   have hk:x.k= .plain:=by
     cases q:x.k with
     |plain=>rfl
     |end_=>exact absurd q h2
     |none=>exact absurd q h1
   have B:x.f≠0:=fun z=>u ⟨hk,z⟩
   have ld:=hL hk B
   refine⟨rfl,d,N.cl,N.n3,A1z,rfl,d,N.cl,N.n4,A0y,fun q dq m1 m2 me=>U7e m1 m2 me fun H4 T ra=>⟨rfl,?_⟩⟩
   have p:SzQ x.f:=⟨by lia,eF O (by decide+kernel)⟩
   obtain⟨q0,q1,wr⟩:=C6f ok p ld M J
   have wq:=B2y (t:=x.f) (s:=x.p-2*v.fin L) (by lia)
   obtain⟨yk,xy⟩:=G.same T
   refine⟨rfl,xy,N.cl,N.n4,A0y,d2,⟨c,v,a,b,xs,ys,q,rooE o x.f x.p L,0,x.p/2,rfl,l.same T,ok,lx,V0s p (by lia) (by lia) ld,ra,⟨q0,q1⟩,wq.1,wr,by decide,by decide,kk.same T⟩⟩
 exact⟨_,rfl,.inr ⟨bad,kk⟩⟩
abbrev B3u:Stmt:=(top 92)
abbrev A7f:Stmt:=(top 94)
abbrev B6e:Stmt:=(top 93)
abbrev B7u:Stmt:=(top 23)
def C6a(f k:Int):Int:=((f.toNat^k.natAbs:Nat):Int)
def sgI(s k:Int):Int:=if k % 2=1 then s else 0
def U5h{s k:Int}(b:0<=s)(a:s<=1):0<=sgI s k/\sgI s k<=1:=by unfold sgI;split<;>lia
def U1j{f k:Int}(i:0<f)(h:f<A8 24)(k0: -20<=k)(k1:k<=20):Sz (C6a f k):=by
 unfold C6a
 have a:0<f.toNat^k.natAbs:=fJ (by lia)
 refine⟨by lia,?_⟩
 have e:A8 24=((10^24:Nat):Int):=rfl
 have b:f.toNat^k.natAbs<=(10^24)^k.natAbs:=fj (by lia) _
 have c:(10^24)^k.natAbs<=(10^24)^20:=bH (by decide) (by lia)
 have d:(10^24)^20<10^1000:=by decide+kernel
 have g:A8 1000=((10^1000:Nat):Int):=rfl
 rw[g]
 exact eB.mpr (by lia)
def B9z(f k:Int):Int:=if k<0 then 1 else C6a f k
def B9p(f k:Int):Int:=if k<0 then C6a f k else 1
def J4n(v:Cv)(x:Nm)(k L:Int):Nm×List Str:=
 if x.k= .none then(Z5,[])
 else if x.k= .end_ then(if k=0 then(⟨.plain,0,1,0⟩,[]) else if k>0 then(⟨.end_,sgI x.s k,0,0⟩,[]) else(A2f v (sgI x.s k) (v.l-v.r+1),[]))
 else if x.f=0 then(if k=0 then(Z5,["void"]) else if k<0 then(⟨.end_,sgI x.s k,0,0⟩,["split"]) else(A2f v (sgI x.s k) (k*x.p),[]))
 else A3m v (sgI x.s k) (B9z x.f k) (B9p x.f k) (k*x.p) L (k*x.p)
def U8r(x:Nm)(k L:Int):Prop:=x.k= .plain ->x.f≠0 ->A0c (B9z x.f k) (B9p x.f k) (k*x.p-L)
structure Nm.Sm(x:Nm):Prop where
 ok:x.Ok
 f24:x.f<A8 24
 p0: -60<=x.p
 p1:x.p<=60
def J2x{v:Cv}{t b n L:Int}(ok:v.Ok)(f:Sz t)(j:Sz b)(h:A0c t b (n-L))(k:t<A8 481)(u:b<A8 481)(p: -1200<=n)(o:n<=1200): -1500<=n-v.fin L/\n-v.fin L<=1500:=by
 have m:=ok.r1;have l:=ok.r2;have r:=ok.l1;have q:=ok.l2
 have e: -482<=n-L/\n-L<=482:=by
   refine⟨?_,?_⟩
   . apply aX
     intro i
     have z:A8 (n-L)=1:=by unfold A8;rw[show(n-L).toNat=0 by lia];rfl
     have g:A8 482<=A8 (-(n-L)):=Z7 (by lia)
     have a:=h.1
     rw[z,fV] at a
     have c:1*A8 (-(n-L))<=b*A8 (-(n-L)):=bC j.1 (bB (D7 _))
     have d:A8 481<=A8 482:=Z7 (by decide)
     lia
   . apply aX
     intro i
     have z:A8 (-(n-L))=1:=by unfold A8;rw[show(-(n-L)).toNat=0 by lia];rfl
     have g:A8 482<=A8 (n-L):=Z7 (by lia)
     have s:A8 482=10*A8 481:=by decide+kernel
     have a:=h.2
     rw[z,fV] at a
     have c:1*A8 (n-L)<=t*A8 (n-L):=bC f.1 (bB (D7 _))
     lia
 unfold Cv.fin A2x
 split<;>lia
inductive C4r(K:Frag)(CB:Addr)(vs:List V)(H:Hp)(Q:VK)(E:XK):Prop
 |mk(v) (m:Int)(_:vs=[v,.int m])(_:m.natAbs.log2<1920)(_:(Str.ofString (toString m)).length<=100)(_:(A9d (-m) m v/\Q .non H)\/(B4s K H (-m) m v/\E (.ref CB) none H))
def J4g:B9 Q28 Q28 (A5 B7u):=scK
def C6w(D:Def K Y "need_count" Q28 B7u f fd)(d:Def K Y "is_between" Q13 C7a p j)(O:Own Y)(T:Kit K)(B:Err K Y "BadCount" CB):sI P w K Y Z 2 f fd Q28 (C4r K CB):=by
 have l:=D0s (P:=P) (w:=w) (Z:=Z) d O T
 refine okZ D.F J4g ?_
 rintro _ _ _ _ H _ Q E c b⟨v,m,rfl,a,e,h⟩
 refine⟨_,(A3 (D3 (A2t (V3 (B7 d l c b (A0 (pv 0) (A0 (A5c A2k (pv 1)) (A0 (pv 1) A1)))))) (A3 (A0v (by rfl) B.g B.q F.excBase_ValueError c.hd b (A0 (C2a (.cons .lit (.cons (.int (pv 1)) (.cons .lit (.cons (.int (pv 1)) .nil))))) A1))) C0)),?_⟩
 rcases h with⟨g,k⟩|⟨g,k⟩
 . exact⟨_,_,_,rfl,.inl ⟨g,rfl,V4 k⟩⟩
 have s:Str.empty.length=0:=rfl
 have r:(Str.ofString "not a whole number from -").length=25:=by decide+kernel
 have q:(Str.ofString " to ").length=4:=by decide+kernel
 have i:(Str.ofString (toString m)).length<=100:=e
 have o:=i
 have sz:∀{n:Nat},n<=1000 ->n<=sizeLine:=fun h=>fk (A0u h)
 refine⟨_,_,_,rfl,.inr ⟨g,rfl,Y9 ?_⟩⟩
 exact⟨_,rfl,sz (by rw[aK];lia),_,rfl,a,_,rfl,sz (by rw[aK,aK];lia),_,rfl,sz (by rw[aK,aK,aK];lia),_,rfl,a,_,rfl,sz (by rw[aK,aK,aK,aK];lia),sz (by rw[aK,aK,aK,aK];lia),sz (by show 1<=1000;decide),k⟩
inductive G4v(f d e:Addr)(vs:List V)(H:Hp)(Q:VK)(E:XK):Prop
 |mk(c v a b xs ys) (s p k:Int)(_:vs=[.ref c,.int s,.int p,.int k])(_:U5 d H c v a b xs ys)(_:xs.length<=900)(_:V7 xs=xs)(_:0<=s)(_:s<=1)(_: -20<=k)(_:k<=20)(_:V9 f d e H c v b xs ys (if k=0 then(Z5,["void"]) else if k<0 then(⟨.end_,s,0,0⟩,["split"]) else(A2f v s (k*p),[])) Q E)
def U1h:B9 Q36 Q36 (A5 A7f):=scK
def J3b(D:Def K Y "power_of_nought" Q36 A7f f fd)(O:Def K Y "void" ["context"] A6c G o)(N:sI P w K Y Z 4 G o ["context"] (A5h q r u))(M:Def K Y "nought" Q11 A1n F l)(L:sI P w K Y Z 3 F l Q11 (A2d q r))(J:Def K Y "split_to_end" Q5 B7w C j)(I:sI P w K Y Z 4 C j Q5 (C5c q r u)):sI P w K Y Z 5 f fd Q36 (G4v q r u):=by
 refine okZ D.F U1h ?_
 rintro _ _ _ _ H _ Q E i g⟨c,v,a,b,xs,ys,s,p,n,rfl,d,t,A,s0,y,T,R,k⟩
 refine⟨_,(A2 (D3 (B5 D5 (pv 3) A4 B8) (A3 (A7 (B7 O N i g (A0 (pv 0) A1)))) C0) (A3 (A7 (G6 (B5 A5n (pv 3) A4 B8) (B7 M L i g (A0 (pv 0) (A0 (pv 1) (A0 (D0 V5 (pv 3) (pv 2)) A1)))) (B7 J I i g (A0 (pv 0) (A0 (pv 1) A1))))))),rfl,rfl,G5 (fun h=>?_) (fun h=>?_)⟩
 . rw[aC (V.int.inj h)] at k
   exact⟨c,v,a,b,xs,ys,rfl,d,t,k⟩
 have B:¬n=0:=fun z=>h (aM V.int z)
 rw[aA B] at k
 refine⟨rfl,G5 (fun h=>?_) (fun h=>?_)⟩
 . have h:n>0:=h
   rw[aA (by lia)] at k
   exact⟨B1b.ok (.inl ⟨by lia,by lia⟩),c,v,a,b,xs,ys,s,_,rfl,d,fun m U nm x e=>k.calm A x d e⟩
 have h:¬n>0:=h
 rw[aC (by lia)] at k
 exact⟨c,v,a,b,xs,ys,s,rfl,d,t,s0,y,k⟩
inductive C8e(e f:Addr)(vs:List V)(H:Hp)(Q:VK)(_:XK):Prop
 |mk(c v a b xs ys) (s k:Int)(_:vs=[.ref c,.int s,.int k])(_:U5 f H c v a b xs ys)(_:v.Ok)(_:0<=s)(_:s<=1)(_:∀n d,H n=none ->C9 H d ->J0 e d n (if k=0 then⟨.plain,0,1,0⟩ else if k>0 then⟨.end_,s,0,0⟩ else A2f v s (v.l-v.r+1)) ->Q (.ref n) d)
def G3j:B9 Q37 Q37 (A5 B6e):=scK
def D8u(D:Def K Y "power_of_end" Q37 B6e f fd)(T:Def K Y "plain" Q23 B7h J r)(R:sI P w K Y Z 3 J r Q23 (C4q K s t))(O:Def K Y "end" ["sign"] B9v I q)(N:sI P w K Y Z 3 I q ["sign"] (B5m K s t))(M:Def K Y "nought" Q11 A1n G p)(L:sI P w K Y Z 3 G p Q11 (A2d s x))(C:A3k P w K Y Z x CB CT CW cw):sI P w K Y Z 4 f fd Q37 (C8e s x):=by
 refine okZ D.F G3j ?_
 rintro _ _ _ _ H _ Q E l j⟨c,v,a,b,xs,ys,u,n,rfl,o,ok,s0,y,k⟩
 obtain⟨W,F,A,gL,U⟩:=C.low
 refine⟨_,(A2 (D3 (B5 D5 (pv 2) A4 B8) (A3 (A7 (B7 T R l j (A0 A4 (A0 A4 (A0 A4 A1)))))) C0) (A3 (A7 (G6 (B5 A5n (pv 2) A4 B8) (B7 O N l j (A0 (pv 1) A1)) (B7 M L l j (A0 (pv 0) (A0 (pv 1) (A0 (Y6 (pv 0) C.c.cl A gL l U .nil j) A1)))))))),?_⟩
 obtain⟨X,e⟩:=o.ins
 refine⟨rfl,rfl,G5 (fun h=>?_) (fun h=>?_)⟩
 . rw[aC (V.int.inj h)] at k
   exact⟨_,_,_,rfl,.inl ⟨⟨0,rfl,by decide,by decide⟩,⟨1,rfl,by decide,by decide⟩,⟨0,rfl,by decide,by decide⟩,fun m i nm g d=>k m i nm g d⟩⟩
 have B:¬n=0:=fun z=>h (aM V.int z)
 rw[aA B] at k
 refine⟨rfl,G5 (fun h=>?_) (fun h=>?_)⟩
 . rw[aC (show n>0 from h)] at k
   exact⟨_,rfl,.inl ⟨⟨u,rfl,s0,y⟩,fun m i nm g d=>k m i nm g d⟩⟩
 rw[aA (show¬n>0 from h)] at k
 exact⟨rfl,e,A0b,c,v.r,v.y,v.l,v.m,a,b,_,_,rfl,o,c,v,a,b,xs,ys,u,v.l-v.r+1,rfl,o,fun m i nm g d=>k m i nm g d⟩
def C4a{f k:Int}(i:0<f)(h:f<A8 24)(k0: -20<=k)(k1:k<=20):Sz (B9z f k)/\Sz (B9p f k)/\B9z f k<A8 481/\B9p f k<A8 481:=by
 have a:=U1j i h k0 k1
 have b:C6a f k<A8 481:=by
   unfold C6a
   have e:A8 24=((10^24:Nat):Int):=rfl
   have b:f.toNat^k.natAbs<=(10^24)^k.natAbs:=fj (by lia) _
   have c:(10^24)^k.natAbs<=(10^24)^20:=bH (by decide) (by lia)
   have d:(10^24)^20<10^481:=by decide+kernel
   have g:A8 481=((10^481:Nat):Int):=rfl
   rw[g]
   exact eB.mpr (by lia)
 have c:(1:Int)<A8 481:=by decide+kernel
 unfold B9z B9p
 split
 . exact⟨Z4,a,c,b⟩
 exact⟨a,Z4,b,c⟩
inductive J7r(K:Frag)(e g h CB f:Addr)(vs:List V)(H:Hp)(Q:VK)(E:XK):Prop
 |mk(c d v2)(_:vs=[.ref c,d,v2])(_:(∃v a b xs ys n x k L,d= .ref n/\v2= .int k/\U5 g H c v a b xs ys/\v.Ok/\xs.length<=900/\V7 xs=xs/\J0 e H n x/\x.Sm/\ -20<=k/\k<=20/\U8r x k L/\V9 e g h H c v b xs ys (J4n v x k L) Q E)\/(A1k K e H d/\E (.ref CB) none H)\/(∃n x,d= .ref n/\J0 e H n x/\B4s K H (-20) 20 v2/\E (.ref f) none H))
def scPow:B9 ["context","one","count","sign","ideal","product","exact"] Q22 (A5 B3u):=scK
def U0c{f f1 f2 f3 f4 f5 f6 f7 fR t X T M CT CR CE:Addr}(D:Def K Y "to_power" Q22 B3u f fd)(dA:Def K Y "need_number" ["thing"] A3h f1 yi)(dB:sI P w K Y Z 1 f1 yi ["thing"] (A2w K t T))(dC:Def K Y "need_count" Q28 B7u f2 yh)(dE:sI P w K Y Z 2 f2 yh Q28 (C4r K M))(dF:Def K Y "nothing" [] Z2 f3 xz)(dG:sI P w K Y Z 3 f3 xz [] (Y7 t))(dH:Def K Y "power_of_end" Q37 B6e f4 xy)(dJ:sI P w K Y Z 4 f4 xy Q37 (C8e t X))(dL:Def K Y "power_of_nought" Q36 A7f f5 xx)(dM:sI P w K Y Z 5 f5 xx Q36 (G4v t X CT))(dN:Def K Y "product_of" Q29 A5f f6 xw)(dP:sI P w K Y Z 1 f6 xw Q29 A9g)(dQ:Def K Y "settled" Q14 A2b f7 xv)(dS:sI P w K Y Z 6 f7 xv Q14 (A1r t X CT CR))(N:Num K Y t)(B:B3n P w K Y Z CR fR yo d0 gP vP)(R:B0j K Y CR CE)(O:Own Y):sI P w K Y Z 7 f fd Q22 (J7r K t X CT T M):=by
 refine okZ D.F scPow ?_
 rintro _ _ _ _ H _ Q E p o⟨c,v1,v2,rfl,h⟩
 refine⟨_,(A2 (C8 (J9 (B7 dA dB p o (A0 (pv 1) A1)))) (A2 (C8 (J9 (B7 dC dE p o (A0 (pv 2) (A0 A4 A1))))) (A2 (C8 (D3 (B5 D5 (C7 (pv 1) rfl) A9 B8) (A3 (A7 (A2m dF dG p o))) C0)) (A2 (C8 (psz (i:=3) scPow.nd (G6 (B5 D5 (D0 Y2 (pv 2) A4) A4 B8) (C7 (pv 1) rfl) A4))) (A2 (C8 (D3 (B5 D5 (C7 (pv 1) rfl) A9 B8) (A3 (A7 (B7 dH dJ p o (A0 (pv 0) (A0 (pv 3) (A0 (pv 2) A1)))))) C0)) (A2 (C8 (D3 (B5 D5 (C7 (pv 1) rfl) A4 B8) (A3 (A7 (B7 dL dM p o (A0 (pv 0) (A0 (pv 3) (A0 (C7 (pv 1) rfl) (A0 (pv 2) A1))))))) C0)) (A2 (C8 (psz (i:=4) scPow.nd (D0 V5 (pv 2) (C7 (pv 1) rfl)))) (A2 (C8 (psz (i:=5) scPow.nd (B7 dN dP p o (A0 (C7 (pv 1) rfl) (A0 (G9 A4x (by rfl) O.abs_ kD (A0 (pv 2) A1)) A1))))) (A2 (C8 (psz (i:=6) scPow.nd (G6 (B5 B0k (pv 2) A4 B8) (A0r B.m B.g p R.g B.b3 .nil o (A0 A4 (A0 (pv 5) (A0 (pv 4) A1)))) (A0r B.m B.g p R.g B.b3 .nil o (A0 (pv 5) (A0 A4 (A0 (pv 4) A1))))))) (A3 (A7 (B7 dQ dS p o (A0 (pv 0) (A0 (pv 3) (A0 (pv 6) (A0 (pv 4) A1)))))))))))))))),?_⟩
 have I:(20:Int).natAbs.log2<1920:=by decide+kernel
 have C:(Str.ofString (toString (20:Int))).length<=100:=by decide+kernel
 rcases h with⟨v,a,b,xs,ys,n,x,k,L,rfl,rfl,r,ok,lx,G,U,l,k0,k1,hL,kk⟩|⟨bad,kk⟩|⟨n,x,rfl,U,bad,kk⟩
 rotate_left
 . exact⟨fun _ _=>False,⟨_,rfl,.inr ⟨bad,kk⟩⟩,fun _ _ h=>h.elim⟩
 . refine⟨fun d e=>e=H/\d=[sr c,sr n,some v2,none,none,none,none],⟨_,rfl,.inl ⟨n,_,_,_,_,rfl,U,rfl,rfl⟩⟩,?_⟩
   rintro d H1 ⟨rfl,rfl⟩
   exact⟨fun _ _=>False,⟨v2,20,rfl,I,C,.inr ⟨bad,kk⟩⟩,fun _ _ h=>h.elim⟩
 have u:=l.ok;have yj:=l.f24;have p0:=l.p0;have p1:=l.p1
 obtain⟨dn,s⟩:=id U
 refine⟨fun d e=>e=H/\d=[sr c,sr n,si k,none,none,none,none],⟨_,rfl,.inl ⟨n,_,_,_,_,rfl,U,rfl,rfl⟩⟩,?_⟩
 rintro d H1 ⟨rfl,rfl⟩
 refine⟨fun d e=>e=H1/\d=[sr c,sr n,si k,none,none,none,none],⟨_,20,rfl,I,C,.inl ⟨⟨k,rfl,k0,k1⟩,rfl,rfl⟩⟩,?_⟩
 rintro d H2 ⟨rfl,rfl⟩
 unfold J4n at kk
 refine⟨fun d e=>e=H2/\x.k≠ .none/\d=[sr c,sr n,si k,none,none,none,none],?_,?_⟩
 . refine⟨rfl,s,N.cl,N.n1,A1a _ _ _ _,rfl,rfl,G5 (fun h=>?_) (fun h=>⟨rfl,neS (b:= .none) h,rfl⟩)⟩
   rw[aC (eqS (b:= .none) h)] at kk
   exact⟨rfl,fun m e nm l g=>kk.calm G l r g⟩
 rintro d H3 ⟨rfl,J,rfl⟩
 rw[aA J] at kk
 have y:=U5h (k:=k) u.s0 u.s1
 refine⟨fun d e=>e=H3/\d=[sr c,sr n,si k,si (sgI x.s k),none,none,none],?_,?_⟩
 . refine⟨(by decide:(0:Int)<2),rfl,rfl,?_⟩
   by_cases W:k % 2=1
   . refine Y8 (aM V.int W) ⟨rfl,s,N.cl,N.n2,num2 _ _ _ _,rfl,?_⟩
     show _=[sr c,sr n,si k,si (sgI x.s k),none,none,none]
     unfold sgI
     rw[aC W]
     rfl
   . refine Y0 (fun z=>W (by injection z)) ⟨rfl,?_⟩
     show _=[sr c,sr n,si k,si (sgI x.s k),none,none,none]
     unfold sgI
     rw[aA W]
     rfl
 rintro d H4 ⟨rfl,rfl⟩
 refine⟨fun d e=>e=H4/\x.k≠ .end_/\d=[sr c,sr n,si k,si (sgI x.s k),none,none,none],?_,?_⟩
 . refine⟨rfl,s,N.cl,N.n1,A1a _ _ _ _,rfl,rfl,G5 (fun h=>?_) (fun h=>⟨rfl,neS (b:= .end_) h,rfl⟩)⟩
   rw[aC (eqS (b:= .end_) h)] at kk
   refine⟨c,v,a,b,xs,ys,sgI x.s k,k,rfl,r,ok,y.1,y.2,fun m e nm l g=>?_⟩
   by_cases c1:k=0
   . rw[aC c1] at kk g
     exact kk.calm G l r g
   . rw[aA c1] at kk g
     by_cases c2:k>0
     . rw[aC c2] at kk g
       exact kk.calm G l r g
     . rw[aA c2] at kk g
       exact kk.calm G l r g
 rintro d H5 ⟨rfl,hE,rfl⟩
 rw[aA hE] at kk
 have hk:x.k= .plain:=by
   cases q:x.k with
   |plain=>rfl
   |end_=>exact absurd q hE
   |none=>exact absurd q J
 refine⟨fun d e=>e=H5/\x.f≠0/\d=[sr c,sr n,si k,si (sgI x.s k),none,none,none],?_,?_⟩
 . refine⟨rfl,s,N.cl,N.n3,A1z,rfl,rfl,G5 (fun h0=>?_) (fun h0=>⟨rfl,fun z=>h0 (aM V.int z),rfl⟩)⟩
   rw[aC (V.int.inj h0)] at kk
   exact⟨rfl,s,N.cl,N.n4,A0y,c,v,a,b,xs,ys,_,x.p,k,rfl,r,lx,G,y.1,y.2,k0,k1,kk⟩
 rintro d H6 ⟨rfl,hf,rfl⟩
 rw[aA hf] at kk
 have ym:=u.p0;have yk:=u.p1;have xu:=u.f0;have yn:=u.f1
 refine⟨fun d e=>e=H6/\d=[sr c,sr n,si k,si (sgI x.s k),si (k*x.p),none,none],⟨rfl,s,N.cl,N.n4,A0y,B1b.ok (.inl ⟨by lia,by lia⟩),rfl,rfl⟩,?_⟩
 rintro d H7 ⟨rfl,rfl⟩
 refine⟨fun d e=>e=H7/\d=[sr c,sr n,si k,si (sgI x.s k),si (k*x.p),si (C6a x.f k),none],?_,?_⟩
 . have yp:((10^60:Nat):Int)=10^60:=by decide+kernel
   have b:x.f.toNat<2^200:=aQ (m:=10^60) (by lia) (by decide+kernel)
   refine⟨rfl,s,N.cl,N.n3,A1z,k,rfl,x.f.toNat,k.natAbs,200,?_,b,by lia,rfl,rfl⟩
   show [V.int x.f,V.int (if k<0 then -k else k)]=[V.int (x.f.toNat:Int),V.int (k.natAbs:Int)]
   rw[cC xu]
   congr 3
   split<;>lia
 rintro d H8 ⟨rfl,rfl⟩
 obtain⟨st,sb,t5,b5⟩:=C4a (k:=k) (show 0<x.f by lia) yj k0 k1
 have kb: -1200<=k*x.p/\k*x.p<=1200:=by
   have a:(k*x.p).natAbs<=20*60:=by
     rw[kU]
     exact jS (by lia) (by lia)
   lia
 have ld:=hL hk hf
 have fp:=J2x ok st sb ld t5 b5 kb.1 kb.2
 refine⟨fun d e=>∃q,C9 H8 e/\A6m CR e q (B9z x.f k) (B9p x.f k) (k*x.p)/\d=[sr c,sr n,si k,si (sgI x.s k),si (k*x.p),si (C6a x.f k),sr q],?_,?_⟩
 . by_cases j:k<0
   . refine⟨rfl,Y8 j (fun q dq m1 m2 me=>B0p m1 m2 me fun H9 A F=>⟨rfl,q,A,?_,rfl⟩)⟩
     unfold B9z B9p
     rw[aC j,aC j]
     exact F
   . refine⟨rfl,Y0 j (fun q dq m1 m2 me=>B0p m1 m2 me fun H9 A F=>⟨rfl,q,A,?_,rfl⟩)⟩
     unfold B9z B9p
     rw[aA j,aA j]
     exact F
 rintro d H9 ⟨q,A,F,rfl⟩
 exact⟨c,v,a,b,xs,ys,q,B9z x.f k,B9p x.f k,k*x.p,L,sgI x.s k,k*x.p,rfl,r.same A,ok,lx,F,st,sb,ld,fp.1,fp.2,y.1,y.2,kk.same A⟩
def U0d{a b:Int}(h:a=0)(c:0<b):A4e a b=0:=by
 subst h
 unfold A4e
 rw[aI (show¬(0:Int)<0 by lia),aI (show¬b<=2*0 by lia),aI (show¬b<2*0 by lia)]
 rfl
abbrev A8r:Stmt:=(top 80)
abbrev B2t:Stmt:=(top 82)
abbrev B1n:Stmt:=(top 83)
def B5j(s:Int):whI 0 1 s=0/\ptI 0 1 s=0:=by
 have h:whI 0 1 s=0:=by unfold whI;rw[fq,Int.zero_ediv]
 refine⟨h,?_⟩
 unfold ptI
 rw[h,fq,fq]
 exact U0d rfl (by rw[fY];exact D7 _)
def C3e(v:Cv)(x:Nm):Nm:=if x.k= .plain/\x.p<0 then⟨.plain,x.s,upI v.y x.s (whI x.f 1 x.p) (ptI x.f 1 x.p),0⟩ else x
def D4j(v:Cv)(x:Nm)(L:Int):Nm×List Str:=if x.k= .plain then(if x.f=0 then(A2f v x.s 0,[]) else A3m v x.s x.f 1 x.p L 1000) else(x,[])
inductive B4y(b:Addr)(vs:List V)(H:Hp)(Q:VK)(_:XK):Prop
 |mk(n x) (q:Int)(_:vs=[.ref n,.int q])(_:J0 b H n x)(_:x.Ok)(_: -1500<=x.p-q)(_:x.p-q<=1500)(_:∀t a,C9 H a ->a t=some (.tup [.int (whI x.f 1 (x.p-q)),.int (ptI x.f 1 (x.p-q))]) ->Q (.ref t) a)
def D6d:B9 Q12 Q12 (A5 A8r):=scK
def D0r{f I l CR CE F g2:Addr}(D:Def K Y "parts_at" Q12 A8r f fd)(N:Num K Y l)(d:B3n P w K Y Z CR I G d0 U T)(R:B0j K Y CR CE)(c:D9c P w K Y Z CR F g2 C B):
   sI P w K Y Z 4 f fd Q12 (B4y l):=by
 refine okZ D.F D6d ?_
 rintro _ _ _ _ H _ Q E j i⟨n,x,q,rfl,a,ok,u,s,k⟩
 refine⟨_,(A3 (A7 (G6 (B5 D5 (C7 (pv 0) rfl) A4 B8) (A0s (A0 A4 (A0 A4 A1))) (A2z (A0r d.m d.g j R.g d.b3 .nil i (A0 (C7 (pv 0) rfl) (A0 A4 (A0 (C7 (pv 0) rfl) A1)))) R.cl c.m2 c.g2 j c.b2 .nil i (A0 (pv 1) A1))))),?_⟩
 have m:2<=sizeLine:=C6 (by decide)
 obtain⟨X,b⟩:=id a
 refine⟨rfl,b,N.cl,N.n3,A1z,rfl,rfl,G5 (fun h=>?_) (fun h=>?_)⟩
 . have h:x.f=0:=V.int.inj h
   rw[h,(B5j _).1,(B5j _).2] at k
   exact⟨m,fun t g=>k t _ (C9.upd g) A6⟩
 have h:¬x.f=0:=fun z=>h (aM V.int z)
 have o:Sz x.f:=A8s ok.f0 h ok.f1
 refine⟨rfl,b,N.cl,N.n3,A1z,rfl,b,N.cl,N.n4,A0y,fun r W A y v=>B0p A y v fun H1 p e=>⟨rfl,?_⟩⟩
 obtain⟨M,L⟩:=id e
 exact⟨rfl,L,A6f,r,x.f,1,x.p,q,rfl,e,o,Z4,u,s,fun t O s2 g J=>k t O (p.trans s2) J⟩
inductive C1n(f g:Addr)(vs:List V)(H:Hp)(Q:VK)(_:XK):Prop
 |mk(c v a b xs ys n x)(_:vs=[.ref c,.ref n])(_:U5 g H c v a b xs ys)(_:J0 f H n x)(_:x.Ok)(_:∀e d,C9 H d ->J0 f d e (C3e v x) ->Q (.ref e) d)
def D7n:B9 Q10 Q10 (A5 B2t):=scK
def C9v(D:Def K Y "to_whole" Q10 B2t f fd)(U:Def K Y "need_number" ["thing"] A3h I r)(T:sI P w K Y Z 1 I r ["thing"] (A2w K o xu))(R:Def K Y "neighbour" Q17 A2h G q)(O:sI P w K Y Z 3 G q Q17 (A5t X))(L:Def K Y "parts_at" Q12 A8r F p)(J:sI P w K Y Z 4 F p Q12 (B4y o))(N:Num K Y o)(M:A4g P w K Y Z o fI C):
   sI P w K Y Z 5 f fd Q10 (C1n o X):=by
 refine okZ D.F D7n ?_
 rintro _ _ _ _ H _ Q E j i⟨c,v,a,b,xs,ys,n,x,rfl,B,d,ok,k⟩
 refine⟨_,(A2 (J9 (B7 U T j i (A0 (pv 1) A1))) (A2 (D3 (PW.pt (B0s (B5 A5b (C7 (pv 1) rfl) A9 B8) (A6u (B5 B1s (C7 (pv 1) rfl) A4 B8)))) (A3 (A7 (pv 1))) C0) (A3 (A7 (A0r M.m (B0.up M.g) j N.g M.b .nil i (A0 A9 (A0 (C7 (pv 1) rfl) (A0 (B7 R O j i (A0 (pv 0) (A0 (C7 (pv 1) rfl) (A0 (B7 L J j i (A0 (pv 1) (A0 A4 A1))) A1)))) (A0 A4 A1))))))))),?_⟩
 obtain⟨dn,m⟩:=id d
 unfold C3e at k
 have same:¬(x.k= .plain/\x.p<0) ->Q (.ref n) H:=fun h=>by
   rw[aA h] at k
   exact k n H (C9.refl _) d
 refine⟨_,rfl,Or.inl ⟨n,_,_,_,_,rfl,d,?_⟩⟩
 refine⟨rfl,m,N.cl,N.n1,A1a _ _ _ _,rfl,rfl,?_⟩
 by_cases l:x.k= .plain
 . refine B0n (by rw[l];rfl) ⟨rfl,m,N.cl,N.n4,A0y,rfl,G5 (fun g=>?_) (fun g=>?_)⟩
   . have g:x.p>=0:=g
     exact same fun z=>by have:=z.2;lia
   . have g:¬x.p>=0:=g
     rw[aC ⟨l,by lia⟩] at k
     have p0:=ok.p0
     refine⟨rfl,m,N.cl,N.n2,num2 _ _ _ _,rfl,m,N.cl,N.n2,num2 _ _ _ _,n,x,0,rfl,d,ok,by lia,by lia,fun t H1 s u=>?_⟩
     rw[kG] at u
     refine⟨c,v,a,b,xs,ys,t,x.s,_,_,rfl,B.same s,u,fun H2 s2=>?_⟩
     exact A3r fun A W nn y e=>k A W (s.trans (s2.trans y)) e
 exact C0g (fun z=>l (eqS (b:= .plain) z)) (Y9 (same fun z=>l z.1))
inductive C1g(d e f:Addr)(vs:List V)(H:Hp)(Q:VK)(E:XK):Prop
 |mk(c v a b xs ys n x) (L:Int)(_:vs=[.ref c,.ref n])(_:U5 e H c v a b xs ys)(_:v.Ok)(_:xs.length<=900)(_:V7 xs=xs)(_:J0 d H n x)(_:x.Ok)(_:x.k= .plain ->x.f≠0 ->A0c x.f 1 (x.p-L))(_:V9 d e f H c v b xs ys (D4j v x L) Q E)
def D8n:B9 Q10 Q10 (A5 B1n):=scK
def C8j{f O M J fR l y A T CR CE:Addr}(D:Def K Y "trimmed" Q10 B1n f fd)(dA:Def K Y "need_number" ["thing"] A3h O t)(dB:sI P w K Y Z 1 O t ["thing"] (A2w K l A))(dC:Def K Y "nought" Q11 A1n M s)(dE:sI P w K Y Z 3 M s Q11 (A2d l y))(dF:Def K Y "settled" Q14 A2b J q)(dG:sI P w K Y Z 6 J q Q14 (A1r l y T CR))(N:Num K Y l)(u:B3n P w K Y Z CR fR xu d0 gP vP)(R:B0j K Y CR CE)(BQ:Y "BEYOND_ALL_POWERS"=some (.int 1000 tq)):sI P w K Y Z 7 f fd Q10 (C1g l y T):=by
 refine okZ D.F D8n ?_
 rintro _ _ _ _ H _ Q E o m⟨c,v,a,b,xs,ys,n,x,L,rfl,p,ok,lx,F,e,g,hL,k⟩
 refine⟨_,(A2 (J9 (B7 dA dB o m (A0 (pv 1) A1))) (A2 (D3 (B5 A5b (C7 (pv 1) rfl) A9 B8) (A3 (A7 (pv 1))) C0) (A2 (D3 (B5 D5 (C7 (pv 1) rfl) A4 B8) (A3 (A7 (B7 dC dE o m (A0 (pv 0) (A0 (C7 (pv 1) rfl) (A0 A4 A1)))))) C0) (A3 (A7 (B7 dF dG o m (A0 (pv 0) (A0 (C7 (pv 1) rfl) (A0 (A0r u.m u.g o R.g u.b3 .nil m (A0 (C7 (pv 1) rfl) (A0 A4 (A0 (C7 (pv 1) rfl) A1)))) (A0 (D4c (v:= .int 1000) (by rfl) BQ ⟨_,rfl⟩) A1)))))))))),?_⟩
 obtain⟨dn,h⟩:=id e
 unfold D4j at k
 refine⟨_,rfl,Or.inl ⟨n,_,_,_,_,rfl,e,?_⟩⟩
 refine⟨rfl,h,N.cl,N.n1,A1a _ _ _ _,rfl,rfl,?_⟩
 by_cases j:x.k= .plain
 . rw[aC j] at k
   refine B0n (by rw[j];rfl) ⟨rfl,h,N.cl,N.n3,A1z,rfl,rfl,G5 (fun d=>?_) (fun d=>?_)⟩
   . have d:x.f=0:=V.int.inj d
     rw[aC d] at k
     exact⟨rfl,h,N.cl,N.n2,num2 _ _ _ _,c,v,a,b,xs,ys,x.s,0,rfl,p,fun n' H' nn U i=>k.calm F U p i⟩
   . have d:¬x.f=0:=fun z=>d (aM V.int z)
     rw[aA d] at k
     have B:Sz x.f:=A8s g.f0 d g.f1
     have I:=hL j d
     have G:=A3e B Z4 I
     have p0:=g.p0;have p1:=g.p1
     have fn:=A6g (v:=v) ok G.1 G.2 (by lia) (by lia)
     refine⟨rfl,h,N.cl,N.n2,num2 _ _ _ _,rfl,h,N.cl,N.n3,A1z,rfl,h,N.cl,N.n4,A0y,fun r dr m1 m2 X=>B0p m1 m2 X fun H1 C W=>⟨rfl,?_⟩⟩
     exact⟨c,v,a,b,xs,ys,r,x.f,1,x.p,L,x.s,1000,rfl,p.same C,ok,lx,W,B,Z4,I,fn.1,fn.2,g.s0,g.s1,k.same C⟩
 rw[aA j] at k
 exact C0g (fun z=>j (eqS (b:= .plain) z)) (k.calm F (C9.refl _) p e)
abbrev B2d:Stmt:=(top 81)
abbrev C3z:Stmt:=(top 79)
abbrev A6x:Stmt:=(top 78)
def A8b(v:Cv)(W p pt:Int)(cut:Bool):List Str:=A2u pt cut++(if W=0 then [] else A4f v.l (p+A6k W-1) pt)
def upW(v:Cv)(x:Nm)(p:Int):Int:=upI v.y x.s (whI x.f 1 (x.p-p)) (ptI x.f 1 (x.p-p))
def C3g(v:Cv)(x:Nm)(p:Int):Nm×List Str:=
 if upW v x p>=A8 v.r then(Z5,["void"]) else if A0j v.m (upW v x p) p=true then(Z5,["void"])
 else if x.f=0 then(⟨.plain,x.s,upW v x p,p⟩,[]) else(⟨.plain,x.s,upW v x p,p⟩,A8b v (upW v x p) p (ptI x.f 1 (x.p-p)) (decide (p>x.p)))
def saR(v:Cv)(b a:Nm)(_:Int):Nm×List Str:=
 if b.k= .none\/a.k= .none then(Z5,[])
 else if b.k= .end_\/a.k= .end_ then(if b.k=a.k then(b,[]) else(Z5,["void"]))
 else if a.p<v.l-v.r+1 then(Z5,["void"]) else if a.p>v.m then(Z5,["void"]) else C3g v b a.p
def V2x(_ _:Nm)(_:Int):Prop:=True
def J8z{s wh pt:Int}(h:0<=wh):0<=upI y s wh pt/\upI y s wh pt<=wh+1:=by
 unfold upI
 generalize (if pt=0 then false else y.goes s (wh % 10) pt)=g
 cases g with
 |true=>exact⟨by show 0<=wh+1;lia,fK _⟩
 |false=>exact⟨h,by show wh<=wh+1;lia⟩
def U6e{f s:Int}(i:0<=f)(h:f<=10^60-1)(k:s<=300):0<=whI f 1 s/\whI f 1 s<A8 400:=by
 have g:=D7 s
 have j:=D7 (-s)
 have a:0<=f*A8 s:=fC i (bB g)
 unfold whI
 rw[fY]
 refine⟨iF a (by lia),?_⟩
 have b:f*A8 s/A8 (-s)<=f*A8 s:=kE _ a
 have e:A8 s<=A8 300:=Z7 (by lia)
 have c:f*A8 s<=(10^60-1)*A8 300:=fT h e (bB g) (by decide+kernel)
 have d:(10^60-1)*A8 300<A8 400:=by decide+kernel
 lia
inductive C1j(e f:Addr)(vs:List V)(H:Hp)(Q:VK)(_:XK):Prop
 |mk(c v a b xs ys n x) (pt:Int) (cut:Bool)(_:vs=[.ref c,.ref n,.int pt,.bl cut])(_:U5 f H c v a b xs ys)(_:J0 e H n x)(_:x.f.natAbs<2^300)(_:∀l d,C9 H d ->d l=some (.lst ((A8b v x.f x.p pt cut).map V.str)) ->Q (.ref l) d)
def scSigMove:B9 ["context","number","part","is_cut","names"] Q43 (A5 B2d):=scK
def C9u(D:Def K Y "signals_of_move" Q43 B2d f fd)(dA:Def K Y "signals_of_rest" Q26 A8q R r)(dB:sI P w K Y Z 1 R r Q26 B4w)(dC:Def K Y "signals_of_lead" Q27 A8y O q)(X:sI P w K Y Z 1 O q Q27 (B4x u))(W:Def K Y "lead_of" ["number"] C0v M p)(U:sI P w K Y Z 1 M p ["number"] (C4x t))(C:A3k P w K Y Z u CB CT CW cw)(N:Num K Y t):
   sI P w K Y Z 2 f fd Q43 (C1j t u):=by
 refine okZ D.F scSigMove ?_
 rintro _ _ _ _ H _ Q E m j⟨c,v,a,b,xs,ys,n,x,pt,cut,rfl,J,g,F,k⟩
 refine⟨_,(A2 (psz (i:=4) scSigMove.nd (B7 dA dB m j (A0 (pv 2) (A0 (pv 3) A1)))) (A2 (D3 (B5 D5 (C7 (pv 1) rfl) A4 B8) (A3 (A7 (pv 4))) C0) (A3 (A7 (D0 A8n (pv 4) (B7 dC X m j (A0 (pv 0) (A0 (B7 W U m j (A0 (pv 1) A1)) (A0 (pv 2) A1))))))))),?_⟩
 unfold A8b at k
 refine⟨pt,cut,rfl,fun l y=>?_⟩
 have d:=C9.upd (o:= .lst ((A2u pt cut).map V.str)) y
 have s:upd H l (.lst ((A2u pt cut).map V.str)) l=some (.lst ((A2u pt cut).map V.str)):=A6
 have A1a:=g.same d
 have e:=J.same d
 generalize upd H l (.lst ((A2u pt cut).map V.str))=H1 at d s A1a e
 obtain⟨dn,T⟩:=id A1a
 refine⟨rfl,T,N.cl,N.n3,A1z,rfl,rfl,G5 (fun h=>?_) (fun h=>?_)⟩
 . have h:x.f=0:=V.int.inj h
   rw[aC h,cP] at k
   exact k l H1 d s
 have h:¬x.f=0:=fun z=>h (aM V.int z)
 rw[aA h] at k
 refine⟨n,_,_,x.f,x.p,rfl,A1a,F,c,v,a,b,xs,ys,_,pt,rfl,e,fun I B=>?_⟩
 have u2:=C9.upd (o:= .lst ((A4f v.l (x.p+A6k x.f-1) pt).map V.str)) B
 refine⟨l,I,_,_,rfl,rfl,u2 _ _ s,A6,?_,fun G A=>?_⟩
 . refine C6 ?_
   have:=B3e (pt:=pt) (cut:=cut) (l:=v.l) (L:=x.p+A6k x.f-1)
   rw[aG] at this
   rw[aP,aP]
   exact bS this (by decide)
 refine k G _ (d.trans (u2.trans (C9.upd A))) ?_
 rw[A6,cL]
 rfl
inductive D5e(d e f:Addr)(vs:List V)(H:Hp)(Q:VK)(E:XK):Prop
 |mk(c v a b xs ys n x) (p:Int)(_:vs=[.ref c,.ref n,.int p])(_:U5 e H c v a b xs ys)(_:v.Ok)(_:xs.length<=900)(_:V7 xs=xs)(_:J0 d H n x)(_:x.Ok)(_:v.l-v.r+1<=p)(_:p<=v.m)(_:V9 d e f H c v b xs ys (C3g v x p) Q E)
def scMoved:B9 ["context","one","power","pair","number"] Q44 (A5 C3z):=scK
def G0m{W p pt:Int}{cut:Bool}:∀z∈A8b v W p pt cut,z∈A1d:=by
 unfold A8b
 split
 . intro z a
   rw[cP] at a
   exact B7m (l:=0) (L:=0) z (bO.mpr (.inl a))
 exact B7m
def G2c{W p pt:Int}{cut:Bool}:(A8b v W p pt cut).length<=4:=by
 unfold A8b
 split
 . rw[cP]
   have:=B3e (pt:=pt) (cut:=cut) (l:=0) (L:=0)
   rw[aG] at this
   lia
 exact B3e
def G2t(D:Def K Y "moved" Q44 C3z f fd)(dA:Def K Y "parts_at" Q12 A8r f1 yk)(dB:sI P w K Y Z 4 f1 yk Q12 (B4y r))(dC:Def K Y "neighbour" Q17 A2h f2 yj)(dE:sI P w K Y Z 3 f2 yj Q17 (A5t J))(dF:Def K Y "ten_to" ["count"] A1w f3 yi)(dG:sI P w K Y Z 2 f3 yi ["count"] A1s)(dH:Def K Y "is_beyond" Q9 A6w f4 yh)(dJ:sI P w K Y Z 2 f4 yh Q9 (B3m r J))(dL:Def K Y "void" ["context"] A6c f5 xz)(dM:sI P w K Y Z 4 f5 xz ["context"] (A5h r J CT))(dN:Def K Y "signals_of_move" Q43 B2d f6 xy)(dP:sI P w K Y Z 2 f6 xy Q43 (C1j r J))(C:A3k P w K Y Z J CB CT CW cw)(N:Num K Y r)(M:A4g P w K Y Z r fI yt):
   sI P w K Y Z 5 f fd Q44 (D5e r J CT):=by
 refine okZ D.F scMoved ?_
 rintro _ _ _ s H _ Q E I G⟨c,v,a,b,xs,ys,n,x,p,rfl,hc,ok,lx,ox,O,T,p0,p1,k⟩
 obtain⟨fR,yr,mR,gR,bR⟩:=C.raised
 refine⟨_,(A2 (C8 (psz (i:=3) scMoved.nd (B7 dA dB I G (A0 (pv 1) (A0 (pv 2) A1))))) (A2 (C8 (psz (i:=4) scMoved.nd (A0r M.m (B0.up M.g) I N.g M.b .nil G (A0 A9 (A0 (C7 (pv 1) rfl) (A0 (B7 dC dE I G (A0 (pv 0) (A0 (C7 (pv 1) rfl) (A0 (pv 3) A1)))) (A0 (pv 2) A1))))))) (A2 (C8 (D3 (PW.pt (B0s (B5 B1s (C7 (pv 4) rfl) (B7 dF dG I G (A0 (C7 (pv 0) rfl) A1)) B8) (A6u (V3 (B7 dH dJ I G (A0 (pv 0) (A0 (pv 4) A1))))))) (A3 (A7 (B7 dL dM I G (A0 (pv 0) A1)))) C0)) (A2 (C8 (D3 (B5 A5b (C7 (pv 1) rfl) A4 B8) (A3 (J9 (A2z (pv 0) C.c.cl mR gR I bR .nil G (A0 (B7 dN dP I G (A0 (pv 0) (A0 (pv 4) (A0 (G7 A0d (pv 3) A4 (fun _ _=>rfl)) (A0 (V6 A5n (pv 2) (C7 (pv 1) rfl) B8) A1))))) A1)))) C0)) (A3 (A7 (pv 4))))))),?_⟩
 have r1:=ok.r1;have r2:=ok.r2;have l1:=ok.l1;have l2:=ok.l2;have m1:=ok.m1;have m2:=ok.m2
 have q0:=T.p0;have q1:=T.p1
 have wb:=U6e (s:=x.p-p) T.f0 T.f1 (by lia)
 have ub:=J8z (y:=v.y) (s:=x.s) (pt:=ptI x.f 1 (x.p-p)) wb.1
 refine⟨fun g m=>∃t,C9 H m/\m t=some (.tup [.int (whI x.f 1 (x.p-p)),.int (ptI x.f 1 (x.p-p))])/\g=[sr c,sr n,si p,sr t,none],⟨n,x,p,rfl,O,T,by lia,by lia,fun t m s' e=>⟨t,s',e,rfl⟩⟩,?_⟩
 rintro g H1 ⟨t,s1,et,rfl⟩
 have A1a:=O.same s1
 have xx:=hc.same s1
 obtain⟨dn,en⟩:=id A1a
 unfold C3g at k
 have eu:upW v x p=upI v.y x.s (whI x.f 1 (x.p-p)) (ptI x.f 1 (x.p-p)):=rfl
 refine⟨fun g m=>∃k,C9 H m/\H k=none/\m t=some (.tup [.int (whI x.f 1 (x.p-p)),.int (ptI x.f 1 (x.p-p))])/\J0 r m k ⟨.plain,x.s,upW v x p,p⟩/\g=[sr c,sr n,si p,sr t,sr k],?_,?_⟩
 . refine⟨rfl,en,N.cl,N.n2,num2 _ _ _ _,rfl,en,N.cl,N.n2,num2 _ _ _ _,c,v,a,b,xs,ys,t,x.s,_,_,rfl,xx,et,fun H2 s2=>?_⟩
   exact A3r (Q:=fun u m=>∃k,C9 H m/\H k=none/\m t=some (.tup [.int (whI x.f 1 (x.p-p)),.int (ptI x.f 1 (x.p-p))])/\J0 r m k ⟨.plain,x.s,upW v x p,p⟩/\ [sr c,sr n,si p,sr t,some u]=[sr c,sr n,si p,sr t,sr k]) fun k' H3 nn s3 A=>⟨k',s1.trans (s2.trans s3),(s1.trans s2).free nn,(s2.trans s3) _ _ et,A,rfl⟩
 rintro g H2 ⟨A,s2,nn,ym,o,rfl⟩
 have q:=hc.same s2
 have L:=O.same s2
 rw[<-eu] at ub
 generalize upW v x p=W at*
 have W4:W<=A8 400:=by lia
 have kV:W>=A8 v.r\/A0j v.m W p=true ->V9 r J CT H c v b xs ys (Z5,["void"]) Q E:=fun h=>by
   by_cases h1:W>=A8 v.r
   . rw[aC h1] at k
     exact k
   . rw[aA h1,aC (h.resolve_left h1)] at k
     exact k
 have F:W<A8 v.r ->A0j v.m W p=false ->V9 r J CT H c v b xs ys (if x.f=0 then(⟨.plain,x.s,W,p⟩,[]) else(⟨.plain,x.s,W,p⟩,A8b v W p (ptI x.f 1 (x.p-p)) (decide (p>x.p)))) Q E:=fun h1 h2=>by
   rw[aA (by lia),aA (by rw[h2];exact aB)] at k
   exact k
 clear k
 obtain⟨dk,ek⟩:=id o
 obtain⟨dx,ec⟩:=q.ins
 obtain⟨yw,U⟩:=id L
 have xv:A≠c:=by
   obtain⟨yu,yo⟩:=hc.ins
   exact eU (D6 yo nn)
 have yq:=A5s r2
 have small:W<A8 v.r ->W.natAbs<2^300:=fun h=>aQ (by lia:W.natAbs<10^24) (by decide+kernel)
 refine⟨fun g m=>m=H2/\W<A8 v.r/\A0j v.m W p=false/\g=[sr c,sr n,si p,sr t,sr A],?_,?_⟩
 . refine⟨rfl,ek,N.cl,N.n3,A1z,rfl,ec,C.c.cl,C.c.n_room,A0f,v.r.toNat,(by rw[cC (by lia)];rfl),by lia,rfl,G5 (fun h=>Y9 ?_) (fun h=>?_)⟩
   . have h:W>=A8 v.r:=h
     exact⟨c,v,a,b,xs,ys,rfl,q,lx,(kV (.inl h)).same s2⟩
   . have h:¬W>=A8 v.r:=h
     refine⟨c,v,a,b,xs,ys,A,⟨.plain,x.s,W,p⟩,rfl,q,o,small (by lia),rfl,?_⟩
     cases hb:A0j v.m W p with
     |true=>exact Y9 ⟨c,v,a,b,xs,ys,rfl,q,lx,(kV (.inr hb)).same s2⟩
     |false=>exact V4 ⟨rfl,by lia,rfl,rfl⟩
 rintro g H3 ⟨rfl,hW,hB,rfl⟩
 have F:=F hW hB
 refine⟨fun g m=>((x.f=0/\m=H3)\/(x.f≠0/\hit ys (A8b v W p (ptI x.f 1 (x.p-p)) (decide (p>x.p)))=none/\∃a',H a'=none/\Exc c H m/\U5 J m c v a' b (V7 (xs++A8b v W p (ptI x.f 1 (x.p-p)) (decide (p>x.p)))) ys/\J0 r m A ⟨.plain,x.s,W,p⟩))/\g=[sr c,sr n,si p,sr t,sr A],?_,?_⟩
 . refine⟨rfl,U,N.cl,N.n3,A1z,rfl,rfl,?_⟩
   by_cases B:x.f=0
   . exact B0n (aM V.int B) ⟨.inl ⟨B,rfl⟩,rfl⟩
   . rw[aA B] at F
     refine C0g (fun z=>B (V.int.inj z)) ?_
     refine⟨rfl,ec,A0t,rfl,rfl,SqT.of ym,D9 (j:=1) rfl,rfl,U,N.cl,N.n4,A0y,c,v,a,b,xs,ys,A,⟨.plain,x.s,W,p⟩,_,_,rfl,q,o,small hW,fun l H4 R el=>?_⟩
     refine⟨c,v.r,v.y,v.l,v.m,a,b,xs,ys,_,rfl,q.same R,by lia,.inl ⟨l,A8b v W p (ptI x.f 1 (x.p-p)) (decide (p>x.p)),rfl,el,bS G2c (by decide),G0m,fun hn a' H5 X na ct=>?_,fun z hz a' d H5 X na ct nd ed=>?_⟩⟩
     . obtain⟨yp,yn⟩:=o.same R
       exact⟨.inr ⟨B,hn,a',(s2.trans R).free na,(Exc.of (s2.trans R)).trans X,ct,⟨yp,X _ _ yn xv⟩⟩,rfl⟩
     . exact F.2 z hz a' d H5 (B9x ((s2.trans R).free na)) ((Exc.of (s2.trans R)).trans X) ct ed
 rintro g H4 ⟨h,rfl⟩
 rcases h with⟨B,rfl⟩|⟨B,hn,a',xw,x4,ct,xu⟩
 . rw[aC B] at F
   exact F.calm ox s2 hc o
 rw[aA B] at F
 exact F.1 hn A a' H4 (B9x xw) x4 ct xu
inductive G4w(h i j:Addr)(vs:List V)(H:Hp)(Q:VK)(E:XK):Prop
 |mk(c v a b xs ys g f e d L)(_:vs=[.ref c,.ref g,.ref f])(_:U5 i H c v a b xs ys)(_:v.Ok)(_:xs.length<=900)(_:V7 xs=xs)(_:Two h H g f e d)(_:e.Ok)(_:d.Ok)(_:V2x e d L)(_:V9 h i j H c v b xs ys (saR v e d L) Q E)
def J9z:B9 Q0 Q0 (A5 A6x):=scK
def C3x(D:Def K Y "same_power" Q0 A6x f fd)(dF:Def K Y "need_numbers" ["things"] A2g f1 X)(dG:sI P w K Y Z 2 f1 X ["things"] (A2c K q xv))(dA:Def K Y "some_of_kind" Q4 A2p f2 W)(dB:sI P w K Y Z 1 f2 W Q4 (A1q q))(dH:Def K Y "nothing" [] Z2 f3 U)(dJ:sI P w K Y Z 3 f3 U [] (Y7 q))(dC:Def K Y "void" ["context"] A6c f4 T)(dE:sI P w K Y Z 4 f4 T ["context"] (A5h q CC CT))(dL:Def K Y "moved" Q44 C3z f5 R)(dM:sI P w K Y Z 5 f5 R Q44 (D5e q CC CT))(C:A3k P w K Y Z CC CB CT CW cw)(N:Num K Y q):
   sI P w K Y Z 6 f fd Q0 (G4w q CC CT):=by
 refine okZ D.F J9z ?_
 rintro _ _ _ _ H _ Q E i g⟨c,v,a,b,xs,ys,s,x,x1,p,L,rfl,O,ok,y,F,t,o1,o2,_,k⟩
 obtain⟨fL,xu,mL,gL,bL⟩:=C.low
 refine⟨_,(A2 (J9 (B7 dF dG i g (A0 (G8 (A0 (pv 1) (A0 (pv 2) A1))) A1))) (A2 (D3 (V3 (B7 dA dB i g (A0 (G8 (A0 (pv 1) (A0 (pv 2) A1))) (A0 A9 A1)))) (A3 (A7 (A2m dH dJ i g))) C0) (A2 (D3 (V3 (B7 dA dB i g (A0 (G8 (A0 (pv 1) (A0 (pv 2) A1))) (A0 A9 A1)))) (A3 (A7 (G6 (B5 D5 (C7 (pv 1) rfl) (C7 (pv 2) rfl) B8) (pv 1) (B7 dC dE i g (A0 (pv 0) A1))))) C0) (A2 (D3 (PW.pt (B0s (B5 B0k (C7 (pv 2) rfl) (Y6 (pv 0) C.c.cl mL gL i bL .nil g) B8) (A6u (B5 A5n (C7 (pv 2) rfl) (C7 (pv 0) rfl) B8)))) (A3 (A7 (B7 dC dE i g (A0 (pv 0) A1)))) C0) (A3 (A7 (B7 dL dM i g (A0 (pv 0) (A0 (pv 1) (A0 (C7 (pv 2) rfl) A1)))))))))),?_⟩
 have B:2<=sizeLine:=C6 (by decide)
 unfold saR at k
 refine⟨B,fun l nl=>?_⟩
 have u:=C9.upd (o:= .lst [.ref s,.ref x]) nl
 refine⟨l,[(s,x1),(x,p)],rfl,(Z0 (t.same u) A6).n,.inl ⟨A6,?_⟩⟩
 refine⟨B,fun l2 J=>?_⟩
 have u2:=u.trans (C9.upd (o:= .lst [.ref s,.ref x]) J)
 refine⟨l2,_,_,rfl,Z0 (t.same u2) A6,(by show 2<=1000;decide),fun H3 s3=>⟨rfl,?_⟩⟩
 rw[A4z]
 have r:=u2.trans s3
 refine G5 (fun M=>?_) (fun M=>?_)
 . rw[aC M] at k
   exact⟨rfl,fun n H' nn s' G=>k.calm F (r.trans s') O G⟩
 rw[aA M] at k
 refine⟨B,fun l3 I=>?_⟩
 have u4:=r.trans (C9.upd (o:= .lst [.ref s,.ref x]) I)
 refine⟨l3,_,_,rfl,Z0 (t.same u4) A6,(by show 2<=1000;decide),fun H5 s5=>⟨rfl,?_⟩⟩
 rw[B6t]
 have d:=u4.trans s5
 have j:=t.same d
 have e:=O.same d
 obtain⟨⟨d1,e1⟩,⟨d2,A⟩⟩:=id j
 refine G5 (fun he=>?_) (fun he=>?_)
 . rw[aC he] at k
   refine⟨rfl,e1,N.cl,N.n1,A1a _ _ _ _,rfl,A,N.cl,N.n1,A1a _ _ _ _,rfl,rfl,G5 (fun h=>?_) (fun h=>?_)⟩
   . rw[aC (kd_str.mp h)] at k
     exact k.calm F d O j.1
   . rw[aA fun z=>h (kd_str.mpr z)] at k
     exact⟨c,v,a,b,xs,ys,rfl,e,y,k.same d⟩
 rw[aA he] at k
 obtain⟨dx,ec⟩:=e.ins
 refine⟨rfl,A,N.cl,N.n4,A0y,rfl,ec,A0b,c,v.r,v.y,v.l,v.m,a,b,_,_,rfl,e,rfl,G5 (fun h=>Y9 ?_) (fun h=>?_)⟩
 . have h:p.p<v.l-v.r+1:=h
   rw[aC h] at k
   exact⟨c,v,a,b,xs,ys,rfl,e,y,k.same d⟩
 have h:¬p.p<v.l-v.r+1:=h
 rw[aA h] at k
 refine⟨rfl,A,N.cl,N.n4,A0y,rfl,ec,C.c.cl,C.c.n_most,A3w,rfl,G5 (fun m=>?_) (fun m=>?_)⟩
 . have m:p.p>v.m:=m
   rw[aC m] at k
   exact⟨c,v,a,b,xs,ys,rfl,e,y,k.same d⟩
 have m:¬p.p>v.m:=m
 rw[aA m] at k
 exact⟨rfl,A,N.cl,N.n4,A0y,c,v,a,b,xs,ys,s,x1,p.p,rfl,e,ok,y,F,j.1,o1,by lia,by lia,k.same d⟩
abbrev A9y:Stmt:=(top 84)
abbrev B6g:Stmt:=(top 85)
def scR(v:Cv)(x:Nm)(m L:Int):Nm×List Str:=if x.k= .plain then A4b v ⟨.plain,x.s,x.f,x.p+m⟩ L else(x,[])
inductive C8d(d e f:Addr)(vs:List V)(H:Hp)(Q:VK)(E:XK):Prop
 |mk(c v a b xs ys n x) (m L:Int)(_:vs=[.ref c,.ref n,.int m])(_:U5 e H c v a b xs ys)(_:v.Ok)(_:xs.length<=900)(_:V7 xs=xs)(_:J0 d H n x)(_:x.Ok)(_: -100<=m)(_:m<=100)(_:x.k= .plain ->x.f≠0 ->A0c x.f 1 (x.p+m-L))(_:V9 d e f H c v b xs ys (scR v x m L) Q E)
def G0r:B9 Q22 Q22 (A5 A9y):=scK
def D6a(D:Def K Y "scaled" Q22 A9y f fd)(dA:Def K Y "need_number" ["thing"] A3h f1 s)(dB:sI P w K Y Z 1 f1 s ["thing"] (A2w K j xv))(dC:Def K Y "need_count" Q28 B7u X r)(dE:sI P w K Y Z 2 X r Q28 (C4r K xu))(dF:Def K Y "rounded" Q9 A3s W q)(dG:sI P w K Y Z 7 W q Q9 (A3x j G F))(N:Num K Y j)(M:A4g P w K Y Z j fI U):sI P w K Y Z 8 f fd Q22 (C8d j G F):=by
 refine okZ D.F G0r ?_
 rintro _ _ _ _ H _ Q E o l⟨c,v,a,b,xs,ys,n,x,m,L,rfl,B,ok,R,A,e,g,O,J,T,k⟩
 refine⟨_,(A2 (J9 (B7 dA dB o l (A0 (pv 1) A1))) (A2 (J9 (B7 dC dE o l (A0 (pv 2) (A0 A4 A1)))) (A2 (D3 (B5 A5b (C7 (pv 1) rfl) A9 B8) (A3 (A7 (pv 1))) C0) (A3 (A7 (B7 dF dG o l (A0 (pv 0) (A0 (A0r M.m (B0.up M.g) o N.g M.b .nil l (A0 A9 (A0 (C7 (pv 1) rfl) (A0 (C7 (pv 1) rfl) (A0 (D0 V8 (C7 (pv 1) rfl) (pv 2)) A1))))) A1)))))))),?_⟩
 obtain⟨dn,p⟩:=id e
 refine⟨_,rfl,Or.inl ⟨n,_,_,_,_,rfl,e,?_⟩⟩
 refine⟨_,100,rfl,by decide+kernel,by decide+kernel,Or.inl ⟨⟨m,rfl,O,J⟩,?_⟩⟩
 refine⟨rfl,p,N.cl,N.n1,A1a _ _ _ _,rfl,rfl,?_⟩
 unfold scR at k
 by_cases i:x.k= .plain
 . rw[aC i] at k
   refine B0n (by rw[i];rfl) ?_
   refine⟨rfl,p,N.cl,N.n2,num2 _ _ _ _,rfl,p,N.cl,N.n3,A1z,rfl,p,N.cl,N.n4,A0y,?_⟩
   refine A3r (Q:=fun u t=>A3x j G F ([V.ref c,u]++ []) t Q (fun C d t=>E C d t)) fun I H4 nn y h=>?_
   have:=g.p0;have:=g.p1
   exact⟨c,v,a,b,xs,ys,I,⟨.plain,x.s,x.f,x.p+m⟩,L,rfl,B.same y,ok,R,A,h,g.s0,g.s1,g.f0,eF g.f1 (by decide+kernel),by show -400<=x.p+m;lia,by show x.p+m<=400;lia,fun _=>T i,k.same y⟩
 rw[aA i] at k
 exact C0g (fun z=>i (eqS (b:= .plain) z)) (k.calm A (C9.refl _) B e)
abbrev B6d:Stmt:=(top 86)
abbrev A8z:Stmt:=(top 87)
abbrev B2h:Stmt:=(top 88)
abbrev B6w:Stmt:=(top 89)
def J2w(v:Cv)(s f p L:Int):Nm:=
 if A0j v.m (A1y v.r (whI f 1 (p-v.fin L)+1) (v.fin L)).1 (A1y v.r (whI f 1 (p-v.fin L)+1) (v.fin L)).2=true then⟨.end_,s,0,0⟩
 else⟨.plain,s,(A1y v.r (whI f 1 (p-v.fin L)+1) (v.fin L)).1,(A1y v.r (whI f 1 (p-v.fin L)+1) (v.fin L)).2⟩
def D4v(v:Cv)(s f p L:Int):Nm:=
 if L>v.m then⟨.plain,s,A8 v.r-1,v.m-v.r+1⟩
 else if ptI f 1 (p-v.fin L)=0 then
   (if whI f 1 (p-v.fin L)=A8 (v.r-1)/\v.fin L>v.l-v.r+1 then⟨.plain,s,A8 v.r-1,v.fin L-1⟩ else⟨.plain,s,whI f 1 (p-v.fin L)-1,v.fin L⟩)
 else⟨.plain,s,whI f 1 (p-v.fin L),v.fin L⟩
def stepN(v:Cv)(x:Nm)(g L:Int):Nm:=
 match x.k with
 | .none=>⟨.none,0,0,0⟩
 | .end_=>if x.s=g then x else⟨.plain,x.s,A8 v.r-1,v.m-v.r+1⟩
 | .plain=>if x.f=0 then⟨.plain,g,1,v.l-v.r+1⟩ else if x.s=g then J2w v x.s x.f x.p L else D4v v x.s x.f x.p L
def D0y{v:Cv}{f p L:Int}(ok:v.Ok)(a:Sz f)(h:A0c f 1 (p-L)):0<=whI f 1 (p-v.fin L)/\whI f 1 (p-v.fin L)<A8 v.r:=by
 refine C3n a Z4 h ok.r1 ?_
 unfold Cv.fin A2x
 split<;>lia
inductive U8y(e g CR:Addr)(vs:List V)(H:Hp)(Q:VK)(res:Cv ->Int ->Int ->Int ->Int ->Nm):Prop
 |mk(c v a b xs ys x) (s f p L:Int)(_:vs=[.ref c,.int s,.ref x])(_:U5 g H c v a b xs ys)(_:v.Ok)(_:A6m CR H x f 1 p)(_:Sz f)(_:A0c f 1 (p-L))(_: -1500<=p-v.fin L)(_:p-v.fin L<=1500)(_:0<=s)(_:s<=1)(_:∀n d,C9 H d ->J0 e d n (res v s f p L) ->Q (.ref n) d)
def J6v(a b CR:Addr):Sp:=fun vs H Q _=>U8y a b CR vs H Q J2w
def G1h(a b CR:Addr):Sp:=fun vs H Q _=>U8y a b CR vs H Q D4v
def scFar:B9 ["context","sign","exact","finest","number"] Q19 (A5 B2h):=scK
def scNear:B9 ["context","sign","exact","finest","pair"] Q19 (A5 B6w):=scK
def J9x{f X W U T r o CR CE CB g1 g2:Addr}(D:Def K Y "farther" Q19 B2h f fd)(dA:Def K Y "finest_power" Q15 A4k X A)(dB:sI P w K Y Z 5 X A Q15 (B8w o CR))(dC:Def K Y "within_room" Q21 B0c W y)(dE:sI P w K Y Z 3 W y Q21 (B9f r o))(dF:Def K Y "is_beyond" Q9 A6w U u)(dG:sI P w K Y Z 2 U u Q9 (B3m r o))(dH:Def K Y "end" ["sign"] B9v T t)(dJ:sI P w K Y Z 3 T t ["sign"] (B5m K r CB))(C:A3k P w K Y Z o yi yh xz xx)(G:D9c P w K Y Z CR g1 g2 xw xv)(R:B0j K Y CR CE):sI P w K Y Z 6 f fd Q19 (J6v r o CR):=by
 refine okZ D.F scFar ?_
 rintro _ _ _ _ H _ Q E j h⟨c,v,a,b,xs,ys,x,I,d,p,L,rfl,M,ok,J,s,O,b1,b2,s0,s1,k⟩
 refine⟨_,(A2 (psz (i:=3) scFar.nd (B7 dA dB j h (A0 (pv 0) (A0 (pv 2) A1)))) (A2 (psz (i:=4) scFar.nd (B7 dC dE j h (A0 (pv 0) (A0 (pv 1) (A0 (D0 V8 (G7 A0d (A2z (pv 2) R.cl G.m2 G.g2 j G.b2 .nil h (A0 (pv 3) A1)) A4 (fun _ _=>rfl)) A4) (A0 (pv 3) A1)))))) (A3 (A7 (G6 (V3 (B7 dF dG j h (A0 (pv 0) (A0 (pv 4) A1)))) (B7 dH dJ j h (A0 (pv 1) A1)) (pv 4)))))),?_⟩
 have wf:=D0y ok s O
 refine⟨c,v,a,b,xs,ys,x,d,1,p,L,rfl,M,J,s,Z4,O,fun H1 F=>?_⟩
 show _
 have e:=J.same F
 have l:=M.same F
 obtain⟨dr,er⟩:=id e
 refine⟨rfl,er,A6f,x,d,1,p,_,rfl,e,s,Z4,b1,b2,fun q H2 B nq eq=>?_⟩
 refine⟨rfl,rfl,SqT.of eq,rfl,c,v,a,b,xs,ys,I,_,_,rfl,l.same B,ok,fun n H3 nn e3 g=>?_⟩
 have xu:=A5s ok.r2
 have small:(A1y v.r (whI d 1 (p-v.fin L)+1) (v.fin L)).1.natAbs<2^300:=by
   have lt:∀z:Int,0<=z ->z<=10^24 ->z.natAbs<2^300:=fun z a b=>aW (show z.natAbs<=10^24 by lia) (by decide+kernel)
   have xy:((10^24:Nat):Int)=10^24:=by decide+kernel
   unfold A1y
   split
   . exact lt _ (by show 0<=(whI d 1 (p-v.fin L)+1)/10;lia) (by show(whI d 1 (p-v.fin L)+1)/10<=10^24;lia)
   . exact lt _ (by show 0<=whI d 1 (p-v.fin L)+1;lia) (by show whI d 1 (p-v.fin L)+1<=10^24;lia)
 refine⟨c,v,a,b,xs,ys,n,_,rfl,(l.same B).same e3,g,small,rfl,?_⟩
 have e13:=(F.trans B).trans e3
 show if A0j v.m (A1y v.r (whI d 1 (p-v.fin L)+1) (v.fin L)).1 (A1y v.r (whI d 1 (p-v.fin L)+1) (v.fin L)).2=true then _ else _
 unfold J2w at k
 by_cases N:A0j v.m (A1y v.r (whI d 1 (p-v.fin L)+1) (v.fin L)).1 (A1y v.r (whI d 1 (p-v.fin L)+1) (v.fin L)).2=true
 . rw[aC N] at k ⊢
   exact⟨_,rfl,.inl ⟨⟨I,rfl,s0,s1⟩,fun m H4 _ e4 nm=>k m H4 (e13.trans e4) nm⟩⟩
 rw[aA N] at k ⊢
 exact k n H3 e13 g
def J3y{f f1 f2 f3 fI W X CR CE g1 g2:Addr}(D:Def K Y "nearer" Q19 B6w f fd)(dC:Def K Y "finest_power" Q15 A4k f1 xx)(dE:sI P w K Y Z 5 f1 xx Q15 (B8w X CR))(dF:Def K Y "nines" Q5 B0z f2 xw)(dG:sI P w K Y Z 3 f2 xw Q5 (B6y W X))(dA:Def K Y "ten_to" ["count"] A1w f3 xv)(dB:sI P w K Y Z 2 f3 xv ["count"] A1s)(N:Num K Y W)(M:A4g P w K Y Z W fI yj)(C:A3k P w K Y Z X yq yp yo yn)(t:D9c P w K Y Z CR g1 g2 yh xz)(R:B0j K Y CR CE):sI P w K Y Z 6 f fd Q19 (G1h W X CR):=by
 refine okZ D.F scNear ?_
 rintro _ _ _ _ H _ Q E j g⟨c,v,a,b,xs,ys,x,sg,F,p,L,rfl,hc,ok,ra,T,hL,b1,b2,s0,s1,k⟩
 obtain⟨fL,yi,mL,gL,bL⟩:=C.low
 refine⟨_,(A2 (D3 (B5 A5n (Y6 (pv 2) R.cl t.m1 t.g1 j t.b1 .nil g) (C7 (pv 0) rfl) B8) (A3 (A7 (B7 dF dG j g (A0 (pv 0) (A0 (pv 1) A1))))) C0) (A2 (psz (i:=3) scNear.nd (B7 dC dE j g (A0 (pv 0) (A0 (pv 2) A1)))) (A2 (psz (i:=4) scNear.nd (A2z (pv 2) R.cl t.m2 t.g2 j t.b2 .nil g (A0 (pv 3) A1))) (A2 (D3 (B5 A5b (G7 A0d (pv 4) A4 (fun _ _=>rfl)) A4 B8) (A3 (A7 (A0r M.m (B0.up M.g) j N.g M.b .nil g (A0 A9 (A0 (pv 1) (A0 (G7 A0d (pv 4) A4 (fun _ _=>rfl)) (A0 (pv 3) A1))))))) C0) (A2 (D3 (PW.pt (A5u (B5 D5 (G7 A0d (pv 4) A4 (fun _ _=>rfl)) (B7 dA dB j g (A0 (D0 Y4 (C7 (pv 0) rfl) A4) A1)) B8) (A3p (B5 A5n (pv 3) (Y6 (pv 0) C.c.cl mL gL j bL .nil g) B8)))) (A3 (A7 (A0r M.m (B0.up M.g) j N.g M.b .nil g (A0 A9 (A0 (pv 1) (A0 (D0 Y4 (B7 dA dB j g (A0 (C7 (pv 0) rfl) A1)) A4) (A0 (D0 Y4 (pv 3) A4) A1))))))) C0) (A3 (A7 (A0r M.m (B0.up M.g) j N.g M.b .nil g (A0 A9 (A0 (pv 1) (A0 (D0 Y4 (G7 A0d (pv 4) A4 (fun _ _=>rfl)) A4) (A0 (pv 3) A1)))))))))))),?_⟩
 have wf:=D0y ok T hL
 have r1:=ok.r1;have r2:=ok.r2
 obtain⟨dr,er⟩:=id ra
 refine⟨rfl,er,A7h,x,F,1,p,rfl,ra,T,Z4,fun u H1 U ld=>?_⟩
 have ef:u=L:=by
   have:=C2j (by decide) ld hL
   lia
 subst ef
 have l:=hc.same U
 have A:=ra.same U
 obtain⟨⟨dx,e⟩,_,_⟩:=id l
 unfold D4v at k
 refine⟨rfl,e,C.c.cl,C.c.n_most,A3w,rfl,G5 (fun h=>?_) (fun h=>?_)⟩
 . rw[aC h] at k
   exact⟨c,v,a,b,xs,ys,sg,rfl,l,ok,fun n H2 _ I d=>k n H2 (U.trans I) d⟩
 rw[aA h] at k
 refine⟨c,v,a,b,xs,ys,x,F,1,p,u,rfl,l,A,T,Z4,hL,fun H2 I=>?_⟩
 have xu:=l.same I
 have y:=A.same I
 obtain⟨ym,xy⟩:=id y
 refine⟨rfl,xy,A6f,x,F,1,p,_,rfl,y,T,Z4,b1,b2,fun q H3 e3 nq G=>?_⟩
 have B:=xu.same e3
 have e13:=(U.trans I).trans e3
 obtain⟨⟨yk,o⟩,_,_⟩:=id B
 refine⟨rfl,rfl,SqT.of G,rfl,rfl,rfl,?_⟩
 by_cases O:ptI F 1 (p-v.fin u)=0
 . rw[aC O] at k
   refine B0n (aM V.int O) ?_
   refine⟨rfl,rfl,SqT.of G,rfl,rfl,o,C.c.cl,C.c.n_room,A0f,(v.r-1).toNat,(by rw[cC (by lia)];rfl),by lia,rfl,rfl,?_⟩
   by_cases J:whI F 1 (p-v.fin u)=A8 (v.r-1)
   . refine Y8 (aM V.int J) ?_
     refine⟨rfl,o,A0b,c,v.r,v.y,v.l,v.m,a,b,_,_,rfl,B,rfl,G5 (fun m=>?_) (fun m=>?_)⟩
     . have m:v.fin u>v.l-v.r+1:=m
       rw[aC ⟨J,m⟩] at k
       exact⟨rfl,o,C.c.cl,C.c.n_room,A0f,v.r.toNat,(by rw[cC (by lia)];rfl),by lia,A3r fun n s _ r d=>k n s (e13.trans r) d⟩
     . have m:¬v.fin u>v.l-v.r+1:=m
       rw[aA fun z=>m z.2] at k
       exact⟨rfl,rfl,SqT.of G,rfl,A3r fun n s _ r d=>k n s (e13.trans r) d⟩
   . rw[aA fun z=>J z.1] at k
     refine Y0 (fun z=>J (by injection z)) ?_
     exact V4 ⟨rfl,rfl,SqT.of G,rfl,A3r fun n s _ r d=>k n s (e13.trans r) d⟩
 rw[aA O] at k
 exact C0g (fun z=>O (by injection z)) ⟨rfl,rfl,SqT.of G,rfl,A3r fun n s _ r d=>k n s (e13.trans r) d⟩
inductive D1y(f h:Addr)(vs:List V)(H:Hp)(Q:VK)(_:XK):Prop
 |mk(c v a b xs ys n x) (g L:Int)(_:vs=[.ref c,.ref n,.int g])(_:U5 h H c v a b xs ys)(_:v.Ok)(_:J0 f H n x)(_:x.Ok)(_:x.k= .plain ->x.f≠0 ->A0c x.f 1 (x.p-L))(_:∀e d,C9 H d ->J0 f d e (stepN v x g L) ->Q (.ref e) d)
def scStepped:B9 ["context","one","goal","exact"] Q34 (A5 A8z):=scK
def C9q{f f1 f2 f3 f4 fI fR u B CR:Addr}{CE:Addr}(D:Def K Y "stepped" Q34 A8z f fd)(dA:Def K Y "nothing" [] Z2 f1 xu)(dB:sI P w K Y Z 3 f1 xu [] (Y7 u))(dC:Def K Y "nines" Q5 B0z f2 W)(dE:sI P w K Y Z 3 f2 W Q5 (B6y u B))(dF:Def K Y "farther" Q19 B2h f3 U)(dG:sI P w K Y Z 6 f3 U Q19 (J6v u B CR))(dH:Def K Y "nearer" Q19 B6w f4 T)(dJ:sI P w K Y Z 6 f4 T Q19 (G1h u B CR))(N:Num K Y u)(M:A4g P w K Y Z u fI xx)(C:A3k P w K Y Z B yk yj yi yh)(MR:B3n P w K Y Z CR fR xv d0 gP vP)(R:B0j K Y CR CE):sI P w K Y Z 7 f fd Q34 (D1y u B):=by
 refine okZ D.F scStepped ?_
 rintro _ _ _ _ H _ Q E q p⟨c,v,a,b,xs,ys,n,x,g,L,rfl,F,ok,O,o,hL,k⟩
 obtain⟨fL,xw,mL,gL,bL⟩:=C.low
 refine⟨_,(A2 (D3 (B5 D5 (C7 (pv 1) rfl) A9 B8) (A3 (A7 (A2m dA dB q p))) C0) (A2 (D3 (B5 D5 (C7 (pv 1) rfl) A9 B8) (A3 (A7 (G6 (B5 D5 (C7 (pv 1) rfl) (pv 2) B8) (pv 1) (B7 dC dE q p (A0 (pv 0) (A0 (C7 (pv 1) rfl) A1)))))) C0) (A2 (D3 (B5 D5 (C7 (pv 1) rfl) A4 B8) (A3 (A7 (A0r M.m (B0.up M.g) q N.g M.b .nil p (A0 A9 (A0 (pv 2) (A0 A4 (A0 (Y6 (pv 0) C.c.cl mL gL q bL .nil p) A1))))))) C0) (A2 (psz (i:=3) scStepped.nd (A0r MR.m MR.g q R.g MR.b3 .nil p (A0 (C7 (pv 1) rfl) (A0 A4 (A0 (C7 (pv 1) rfl) A1))))) (A3 (A7 (G6 (B5 D5 (C7 (pv 1) rfl) (pv 2) B8) (B7 dF dG q p (A0 (pv 0) (A0 (C7 (pv 1) rfl) (A0 (pv 3) A1)))) (B7 dH dJ q p (A0 (pv 0) (A0 (C7 (pv 1) rfl) (A0 (pv 3) A1))))))))))),?_⟩
 obtain⟨dn,t⟩:=id O
 obtain⟨⟨dx,ec⟩,_,_⟩:=id F
 have d1:∀{z:Str} {X:Prop},¬V.str z=V.str z ->X:=fun h=>absurd rfl h
 refine⟨rfl,t,N.cl,N.n1,A1a _ _ _ _,rfl,rfl,G5 (fun h=>?_) (fun h=>?_)⟩
 . have l:x.k= .none:=eqS (b:= .none) h
   unfold stepN at k
   rw[l] at k
   dsimp only at k
   exact⟨rfl,fun m y _ j d=>k m y j d⟩
 have I:x.k≠ .none:=neS (b:= .none) h
 refine⟨rfl,t,N.cl,N.n1,A1a _ _ _ _,rfl,rfl,G5 (fun h=>?_) (fun h=>?_)⟩
 . have l:x.k= .end_:=eqS (b:= .end_) h
   unfold stepN at k
   rw[l] at k
   dsimp only at k
   refine⟨rfl,t,N.cl,N.n2,num2 _ _ _ _,rfl,rfl,G5 (fun e=>?_) (fun e=>?_)⟩
   . have e:x.s=g:=by injection e
     rw[aC e] at k
     exact k n H (C9.refl _) O
   . have e:¬x.s=g:=fun z=>e (aM V.int z)
     rw[aA e] at k
     exact⟨rfl,t,N.cl,N.n2,num2 _ _ _ _,c,v,a,b,xs,ys,x.s,rfl,F,ok,fun m y _ j d=>k m y j d⟩
 have G:x.k≠ .end_:=neS (b:= .end_) h
 have l:x.k= .plain:=by
   cases l:x.k with
   |plain=>rfl
   |end_=>exact absurd l G
   |none=>exact absurd l I
 unfold stepN at k
 rw[l] at k
 dsimp only at k
 refine⟨rfl,t,N.cl,N.n3,A1z,rfl,rfl,G5 (fun h=>?_) (fun h=>?_)⟩
 . have h:x.f=0:=by injection h
   rw[aC h] at k
   exact⟨rfl,ec,A0b,c,v.r,v.y,v.l,v.m,a,b,_,_,rfl,F,A3r fun m y _ j d=>k m y j d⟩
 have r:¬x.f=0:=fun z=>h (aM V.int z)
 rw[aA r] at k
 have sz:=A8s o.f0 r o.f1
 have ld:=hL l r
 have sh:=A3e sz Z4 ld
 have:=o.p0;have:=o.p1
 have fn:=A6g (v:=v) ok sh.1 sh.2 (by lia) (by lia)
 refine⟨rfl,t,N.cl,N.n3,A1z,rfl,t,N.cl,N.n4,A0y,fun x1 xy n1 n2 ne=>B0p n1 n2 ne fun y j ra=>⟨rfl,?_⟩⟩
 have J:=O.same j
 have A:=F.same j
 obtain⟨xz,s⟩:=id J
 refine⟨rfl,s,N.cl,N.n2,num2 _ _ _ _,rfl,rfl,G5 (fun e=>?_) (fun e=>?_)⟩
 . have e:x.s=g:=by injection e
   rw[aC e] at k
   exact⟨rfl,s,N.cl,N.n2,num2 _ _ _ _,c,v,a,b,xs,ys,x1,x.s,x.f,x.p,L,rfl,A,ok,ra,sz,ld,fn.1,fn.2,o.s0,o.s1,fun m H2 e2 d=>k m H2 (j.trans e2) d⟩
 have e:¬x.s=g:=fun z=>e (aM V.int z)
 rw[aA e] at k
 exact⟨rfl,s,N.cl,N.n2,num2 _ _ _ _,c,v,a,b,xs,ys,x1,x.s,x.f,x.p,L,rfl,A,ok,ra,sz,ld,fn.1,fn.2,o.s0,o.s1,fun m H2 e2 d=>k m H2 (j.trans e2) d⟩
inductive D1x(f h:Addr)(g:Int)(vs:List V)(H:Hp)(Q:VK)(_:XK):Prop
 |mk(c v a b xs ys n x) (L:Int)(_:vs=[.ref c,.ref n])(_:U5 h H c v a b xs ys)(_:v.Ok)(_:J0 f H n x)(_:x.Ok)(_:x.k= .plain ->x.f≠0 ->A0c x.f 1 (x.p-L))(_:∀e d,C9 H d ->J0 f d e (stepN v x g L) ->Q (.ref e) d)
def D9r:B9 Q10 Q10 (A5 B6g):=scK
def G3f:B9 Q10 Q10 (A5 B6d):=scK
def D8j(D:Def K Y "next_up" Q10 B6g f fd)(u:Def K Y "need_number" ["thing"] A3h q e)(t:sI P w K Y Z 1 q e ["thing"] (A2w K j CB))(s:Def K Y "stepped" Q34 A8z p d)(r:sI P w K Y Z 7 p d Q34 (D1y j y)):sI P w K Y Z 8 f fd Q10 (D1x j y 0):=by
 refine okZ D.F D9r ?_
 rintro _ _ _ _ H _ Q E h g⟨c,v,a,b,xs,ys,n,x,L,rfl,m,ok,i,l,o,k⟩
 exact⟨_,(A2 (J9 (B7 u t h g (A0 (pv 1) A1))) (A3 (A7 (B7 s r h g (A0 (pv 0) (A0 (pv 1) (A0 A4 A1))))))),_,rfl,.inl ⟨n,_,_,_,_,rfl,i,c,v,a,b,xs,ys,n,x,0,L,rfl,m,ok,i,l,o,k⟩⟩
def D7p(D:Def K Y "next_down" Q10 B6d f fd)(u:Def K Y "need_number" ["thing"] A3h q e)(t:sI P w K Y Z 1 q e ["thing"] (A2w K j CB))(s:Def K Y "stepped" Q34 A8z p d)(r:sI P w K Y Z 7 p d Q34 (D1y j y)):sI P w K Y Z 8 f fd Q10 (D1x j y 1):=by
 refine okZ D.F G3f ?_
 rintro _ _ _ _ H _ Q E h g⟨c,v,a,b,xs,ys,n,x,L,rfl,m,ok,i,l,o,k⟩
 exact⟨_,(A2 (J9 (B7 u t h g (A0 (pv 1) A1))) (A3 (A7 (B7 s r h g (A0 (pv 0) (A0 (pv 1) (A0 A4 A1))))))),_,rfl,.inl ⟨n,_,_,_,_,rfl,i,c,v,a,b,xs,ys,n,x,1,L,rfl,m,ok,i,l,o,k⟩⟩
def ll1{a:Type}:∀{l:List a},l.length=1 ->∃p,l=[p]
 | [p],_=>⟨p,rfl⟩
def ll2{a:Type}:∀{l:List a},l.length=2 ->∃p q,l=[p,q]
 | [p,q],_=>⟨p,q,rfl⟩
def ll3{a:Type}:∀{l:List a},l.length=3 ->∃p q r,l=[p,q,r]
 | [p,q,r],_=>⟨p,q,r,rfl⟩
structure Nm.Fs(x:Nm):Prop where
 f0:0<=x.f
 f1:x.f<=10^60-1
 p0: -200<=x.p
 p1:x.p<=200
def W32(x:Nm):Prop:=x.k= .plain ->x.Fs
def Nm.Ok.w3{x:Nm}(h:x.Ok):W32 x:=fun _=>⟨h.f0,h.f1,h.p0,h.p1⟩
def A1j(t b:Int):Int:=if t*A8 (-(A6k t-A6k b))<b*A8 (A6k t-A6k b) then A6k t-A6k b-1 else A6k t-A6k b
def B0m(t n:Int):Int:=(A6k t-1+n)/2
def G1r{t:Int}(h:Sz t):A8 (A6k t-1)<=t/\t<A8 (A6k t)/\1<=A6k t:=by
 obtain⟨n,rfl,c,_⟩:=h.nat
 obtain⟨j,a,b⟩:=B6v n c
 rw[B6j b a]
 have e:A8 ((j:Int)+1-1)=((10^j:Nat):Int):=by unfold A8;rw[show((j:Int)+1-1).toNat=j by lia]
 have d:A8 ((j:Int)+1)=((10^(j+1):Nat):Int):=by unfold A8;rw[show((j:Int)+1).toNat=j+1 by lia]
 rw[e,d]
 exact⟨eQ.mpr a,eB.mpr b,by lia⟩
def J4p{t b s s0:Int}(i:0<b)(d:0<t)(h:A0c t b s0)(e:s0<=s):b*A8 (-s)<=t*A8 s:=by
 have c:=A2j e
 have a:=D7 (-s0)
 have g:=D7 (s-s0)
 have q:t*A8 s*A8 (-s0)=t*A8 s0*A8 (-s)*A8 (s-s0):=by
   calc t*A8 s*A8 (-s0)=t*(A8 s*A8 (-s0)):=by ac_rfl
     _=t*(A8 s0*A8 (-s)*A8 (s-s0)):=by rw[c]
     _=t*A8 s0*A8 (-s)*A8 (s-s0):=by ac_rfl
 have k:b*A8 (-s0)*A8 (-s)<=t*A8 s0*A8 (-s):=bC h.1 (bB (D7 _))
 have j:t*A8 s0*A8 (-s)*1<=t*A8 s0*A8 (-s)*A8 (s-s0):=cB (by lia) (bB (bT (bT d (D7 _)) (D7 _)))
 have f:b*A8 (-s)*A8 (-s0)=b*A8 (-s0)*A8 (-s):=by ac_rfl
 exact Int.le_of_mul_le_mul_right (by rw[f,q];lia) a
def J1h{t b s s0:Int}(f:0<t)(h:A0c t b s0)(e:s<s0):t*A8 s<b*A8 (-s):=by
 have c:=A2j (bB e)
 have g:=D3y (d:=s0-s) (by lia)
 have a:=D7 (-s0)
 have q:t*A8 s0*A8 (-s)=t*A8 s*A8 (-s0)*A8 (s0-s):=by
   calc t*A8 s0*A8 (-s)=t*(A8 s0*A8 (-s)):=by ac_rfl
     _=t*(A8 s*A8 (-s0)*A8 (s0-s)):=by rw[c]
     _=t*A8 s*A8 (-s0)*A8 (s0-s):=by ac_rfl
 have k:t*A8 s0*A8 (-s)<10*(b*A8 (-s0))*A8 (-s):=cE h.2 (D7 _)
 have l:t*A8 s*A8 (-s0)*10<=t*A8 s*A8 (-s0)*A8 (s0-s):=cB g (bB (bT (bT f (D7 _)) a))
 have i:10*(b*A8 (-s0))*A8 (-s)=b*A8 (-s)*A8 (-s0)*10:=by ac_rfl
 have j:t*A8 s*A8 (-s0)*10<b*A8 (-s)*A8 (-s0)*10:=by rw[<-i];rw[q] at k;lia
 exact eS (eS j (by decide)) (bB a)
def U8b{t b s s0:Int}(d:0<b)(c:0<t)(h:A0c t b s0):whI t b s=0↔s<s0:=by
 have g:0<b*A8 (-s):=bT d (D7 _)
 have f:0<=t*A8 s:=bB (bT c (D7 _))
 unfold whI
 constructor
 . intro z
   apply aX
   intro hh
   have a:=J4p d c h (show s0<=s by lia)
   have i:1<=t*A8 s/(b*A8 (-s)):=(iS g).mpr (by rw[fY];exact a)
   lia
 intro e
 exact Int.ediv_eq_zero_of_lt f (J1h c h e)
def A5p{t b:Int}(j:Sz t)(k:Sz b)(n:Int):A0c t b (n-(n+A1j t b)):=by
 obtain⟨a,l,i,_⟩:=j.nat
 obtain⟨g,m,o,_⟩:=k.nat
 obtain⟨L,f,e⟩:=B6v a i
 obtain⟨M,d,c⟩:=B6v g o
 subst l m
 rw[show n-(n+A1j (a:Int) (g:Int))=0-A1j (a:Int) (g:Int) by lia]
 unfold A1j
 rw[B6j e f,B6j c d,show(L:Int)+1-((M:Int)+1)=(L:Int)-M by lia]
 split
 . rename_i h
   have:=B7p f e d c (by rw[show(M:Int)-L= -((L:Int)-M) by lia,Int.neg_neg];exact h)
   rw[show(0:Int)- ((L:Int)-M-1)=(M:Int)-L+1 by lia]
   exact this
 rename_i h
 have:=C1d f e d c (by rw[show(M:Int)-L= -((L:Int)-M) by lia,Int.neg_neg];lia)
 rw[show(0:Int)- ((L:Int)-M)=(M:Int)-L by lia]
 exact this
def C6c{t:Int}(c:SzQ t)(n:Int):A5y t (n-2*B0m t n):=by
 obtain⟨m,rfl,d,_⟩:=D3q c
 obtain⟨L,b,a⟩:=B6v m d
 refine C0y b a ?_
 unfold B0m
 rw[B6j a b]
 congr 1
 lia
def C5t(i:Int):∀(n:Nat) (f p:Int),p<=(strip i n f p).2
 |0,f,p=>fK _
 | n +1,f,p=>by
   unfold strip
   split
   . have:=C5t i n (f/10) (p+1)
     lia
   . exact fK _
def C5m(i:Int):∀(n:Nat) (f p:Int),f≠0 ->(strip i n f p).1≠0
 |0,f,p,h=>h
 | n+1,f,p,h=>by
   unfold strip
   split
   . exact C5m i n (f/10) (p+1) (by lia)
   . exact h
def D9s{v:Cv}{s wh pt q i:Int}(ok:v.Ok)(h:0<=wh)(l:wh<A8 v.r)(e:wh=0 ->pt≠0/\q<=1):
   0<=(A1t v s wh pt q i).1/\(A1t v s wh pt q i).1<=10^24/\q<=(A1t v s wh pt q i).2/\((A1t v s wh pt q i).1=0 ->(A1t v s wh pt q i).2<=1):=by
 have j:=A5s ok.r2
 have m:A8 1<=A8 v.r:=Z7 ok.r1
 have n:A8 1=10:=rfl
 unfold A1t
 by_cases d:pt=0
 . rw[aC d]
   have a:=B7g i (i-q).toNat wh q h
   have b:=C5t i (i-q).toNat wh q
   have c:=C5m i (i-q).toNat wh q (fun z=>(e z).1 d)
   unfold A3z
   exact⟨a.1,by lia,b,fun z=>absurd z c⟩
 rw[aA d]
 have k:wh<=upI v.y s wh pt/\upI v.y s wh pt<=wh+1:=by
   unfold upI
   generalize (if pt=0 then false else v.y.goes s (wh % 10) pt)=g
   cases g with
   |true=>exact⟨by show wh<=wh+1;lia,fK _⟩
   |false=>exact⟨fK _,by show wh<=wh+1;lia⟩
 generalize upI v.y s wh pt=u at k
 unfold A1y
 by_cases f:u=A8 v.r
 . rw[aC f]
   exact⟨by show 0<=u/10;lia,by show u/10<=10^24;lia,by show q<=q+1;lia,fun z=>by have z:u/10=0:=z;lia⟩
 rw[aA f]
 exact⟨by show 0<=u;lia,by show u<=10^24;lia,fK _,fun z=>by have z:u=0:=z;exact(e (by lia)).2⟩
def B7s{v:Cv}{s wh pt L q i:Int}(ok:v.Ok)(l:0<=wh)(k:wh<A8 v.r)(A: -100<=q)(o:wh=0 ->pt≠0/\q<=1)(c:(A6s v s wh pt L q i).1.k= .plain):(A6s v s wh pt L q i).1.Fs:=by
 have m:=A5s ok.r2
 have u:=D7 v.r
 have y:=ok.r1;have x:=ok.r2;have C:=ok.m1;have B:=ok.m2
 have t:(10:Int)^24<10^60-1:=by decide+kernel
 have e:=D9s (s:=s) (pt:=pt) (q:=q) (i:=i) ok l k o
 unfold A6s at c ⊢
 by_cases a:A0j v.m (A1t v s wh pt q i).1 (A1t v s wh pt q i).2=true
 . rw[aC a] at c ⊢
   unfold C2v at c ⊢
   by_cases he:v.y.toEnd s=true
   . rw[aC he] at c
     cases c
   . rw[aA he]
     exact⟨by show 0<=A8 v.r-1;lia,by show A8 v.r-1<=10^60-1;lia,by show -200<=v.m-v.r+1;lia,by show v.m-v.r+1<=200;lia⟩
 rw[aA a]
 generalize A1t v s wh pt q i=r at e a
 obtain⟨f,p⟩:=r
 obtain⟨d,j,g,n⟩:=e
 have d:0<=f:=d
 have j:f<=10^24:=j
 have g:q<=p:=g
 refine⟨d,by show f<=10^60-1;lia,by show -200<=p;lia,?_⟩
 show p<=200
 by_cases z:f=0
 . have:=n z
   have:p<=1:=this
   lia
 have a:¬A0j v.m f p=true:=a
 unfold A0j at a
 rw[aA z] at a
 have h:¬p+A6k f-1>v.m:=fun h=>a (aT h)
 have b:=(G1r (A8s d z (by lia))).2.2
 lia
def D0z{v:Cv}{s i:Int}(ok:v.Ok):(A2f v s i).Fs:=by
 have b:=ok.r1;have a:=ok.r2;have d:=ok.m1;have c:=ok.m2;have f:=ok.l1;have e:=ok.l2
 have h: -200<=C4j (A2x i (v.l-v.r+1)) v.m/\C4j (A2x i (v.l-v.r+1)) v.m<=200:=by
   unfold C4j A2x
   split<;>split<;>lia
 exact⟨fK _,by show(0:Int)<=10^60-1;decide+kernel,h.1,h.2⟩
def D0q{v:Cv}(ok:v.Ok)(L:Int): -100<=v.fin L/\(L<v.fin L ->v.fin L<=1):=by
 have b:=ok.r1;have a:=ok.r2;have d:=ok.l1;have c:=ok.l2
 unfold Cv.fin A2x
 split<;>constructor<;>lia
def C0r{a b:Int}(h:0<a):A4e a b≠0:=by
 unfold A4e
 rw[aC (aT h)]
 split<;>split<;>lia
def C0h{v:Cv}{s t b n i:Int}(ok:v.Ok)(a:Sz t)(c:Sz b):W32 (A3m v s t b n (n+A1j t b) i).1:=fun f=>by
 have ld:=A5p a c n
 have g:=D0q ok (n+A1j t b)
 have e:0<t:=by have:=a.1;lia
 have h:0<b:=by have:=c.1;lia
 have d:=C3n (s2:=n-v.fin (n+A1j t b)) a c ld ok.r1 (by unfold Cv.fin A2x;split<;>lia)
 unfold A3m at f ⊢
 refine B7s ok d.1 d.2 g.1 (fun z=>?_) f
 have lt:=(U8b h e ld).1 z
 refine⟨?_,g.2 (by lia)⟩
 unfold ptI
 rw[z,fq,kG]
 exact C0r (bT e (D7 _))
def B2v{v:Cv}{s i:Int}(ok:v.Ok):W32 (A2f v s i):=fun _=>D0z ok
def A0a:W32 Z5:=fun h=>nomatch h
def A9w{v:Cv}{x:Nm}(ok:v.Ok)(b:x.k= .plain ->x.f≠0 ->Sz x.f):W32 (A4b v x (x.p+A1j x.f 1)).1:=by
 unfold A4b
 cases a:x.k with
 | plain=>
   dsimp only
   split
   . exact B2v ok
   . rename_i c
     exact C0h ok (b a c) Z4
 |end_=>intro h;rw[a] at h;cases h
 |none=>intro h;rw[a] at h;cases h
def B2j{xs:List Str}(h:V7 xs=xs):xs.length<=7:=by
 rw[<-h]
 exact gI _ _
def A7v{xs:List Str}(h:V7 xs=xs):xs.length<=900:=by have:=B2j h;lia
def Fpm(g:Int)(v:Cv)(x y:Nm):Nm×List Str:=C5q v x (pmW g y) (A4h x (pmW g y)+A1j (B9w (A7d x (pmW g y))) 1)
def Fti(v:Cv)(x y:Nm):Nm×List Str:=C3q v x y ((A2y x y).p+A1j (A2y x y).f 1)
def Ffu(v:Cv)(x y z:Nm):Nm×List Str:=C3m v x y z (A4h (A2y x y) z+A1j (B9w (A7d (A2y x y) z)) 1)
def Fov(v:Cv)(x y:Nm):Nm×List Str:=D3s v x y (x.p-y.p+A1j x.f y.f)
def Fwo(v:Cv)(x y:Nm):Nm×List Str:=woR v x y (0+A1j (A0n x y) 1)
def Fre(v:Cv)(x y:Nm):Nm×List Str:=reR v x y ((A4y x y).p+A1j (A4y x y).f 1)
def Fsa(v:Cv)(x y:Nm):Nm×List Str:=saR v x y 0
def Fch(g:Int)(v:Cv)(x y:Nm):Nm×List Str:=G2r v g x y ((D0d g x y).p+A1j (D0d g x y).f 1)
def Fro(v:Cv)(x:Nm):Nm×List Str:=rootA v x (B0m x.f x.p)
def Fwh(v:Cv)(x:Nm):Nm×List Str:=(C3e v x,[])
def Ftr(v:Cv)(x:Nm):Nm×List Str:=D4j v x (x.p+A1j x.f 1)
def Fne(g:Int)(v:Cv)(x:Nm):Nm×List Str:=(stepN v x g (x.p+A1j x.f 1),[])
def Fpo(v:Cv)(x:Nm)(k:Int):Nm×List Str:=J4n v x k (k*x.p+A1j (B9z x.f k) (B9p x.f k))
def Fsc(v:Cv)(x:Nm)(k:Int):Nm×List Str:=scR v x k (x.p+k+A1j x.f 1)
def Nm.Bg.sz{x:Nm}(h:x.Bg)(a:x.f≠0):Sz x.f:=⟨by have:=h.f0;lia,Int.lt_trans h.f1 (by decide+kernel)⟩
def J6r{g:Int}{x:Nm}(h:x.Ok):(pmW g x).Bg:=by
 unfold pmW
 split
 . exact h.bg
 exact⟨h.bg.f0,h.bg.f1,h.bg.p0,h.bg.p1⟩
def V1e{g:Int}{x:Nm}(h:x.Ok):W32 (pmW g x):=by
 unfold pmW
 split
 . exact h.w3
 exact fun _=>⟨h.f0,h.f1,h.p0,h.p1⟩
def G3m{x y:Nm}(b:x.Bg)(a:y.Bg):D4b x y (A4h x y+A1j (B9w (A7d x y)) 1):=fun _ _ h=>A5p (C8x b a h) Z4 _
def B8e{x:Nm}(h:x.k= .plain ->x.f≠0 ->Sz x.f):x.k= .plain ->x.f≠0 ->A0c x.f 1 (x.p-(x.p+A1j x.f 1)):=fun a b=>A5p (h a b) Z4 _
def J6n{v:Cv}{x y:Nm}(ok:v.Ok)(c:x.Bg)(b:y.Bg)(a:W32 y):W32 (D7y v x y (A4h x y+A1j (B9w (A7d x y)) 1)).1:=by
 unfold D7y
 split
 . unfold J2e
   split
   . exact A0a
   . dsimp only
     split
     . rename_i h
       intro q
       rw[h] at q
       cases q
     . exact a
 split
 . exact B2v ok
 rename_i h
 exact C0h ok (C8x c b h) Z4
def U5q{g:Int}{v:Cv}{x y:Nm}(ok:v.Ok)(b:x.Ok)(a:y.Ok):W32 (Fpm g v x y).1:=by
 unfold Fpm C5q
 split
 . exact A0a
 exact J6n ok b.bg (J6r a) (V1e a)
def V1a{v:Cv}{x y:Nm}(ok:v.Ok)(b:x.Ok)(a:y.Ok):W32 (Fti v x y).1:=by
 unfold Fti C3q
 split
 . exact A0a
 split
 . exact A0a
 exact A9w ok fun _=>(A6b b a).sz
def U7d{v:Cv}{x y z:Nm}(ok:v.Ok)(c:x.Ok)(b:y.Ok)(a:z.Ok):W32 (Ffu v x y z).1:=by
 unfold Ffu C3m
 split
 . exact A0a
 split
 . exact A0a
 exact J6n ok (A6b c b) a.bg a.w3
def J7b{v:Cv}{i:Int}(ok:v.Ok):W32 (D8a v x y i).1:=by
 unfold D8a
 split
 . split
   . exact A0a
   . exact fun h=>nomatch h
 split
 . exact B2v ok
 split
 . exact A0a
 exact fun h=>nomatch h
def V1q{v:Cv}{x y:Nm}(ok:v.Ok)(b:x.Ok)(a:y.Ok):W32 (Fov v x y).1:=by
 unfold Fov D3s
 split
 . exact A0a
 split
 . rename_i q
   split
   . exact B2v ok
   . rename_i h
     exact C0h ok (b.bg.sz h) (a.bg.sz q.2.2)
 exact J7b ok
def sz5{t:Int}(h:t≠0)(b:0<=t/\t<A8 500):Sz t:=SzL.sz ⟨by lia,b.2⟩
def V1f{v:Cv}{x y:Nm}(ok:v.Ok)(b:x.Ok)(a:y.Ok):W32 (Fwo v x y).1:=by
 unfold Fwo woR
 split
 . exact A0a
 split
 . split
   . exact A0a
   . split
     . exact B2v ok
     . rename_i h
       exact C0h ok (sz5 h (C9b b a)) Z4
 exact J7b ok
def J3c{x y:Nm}(c:x.Ok)(d:y.Ok)(f:¬(y.k= .plain/\y.f=0))(e:y.k≠ .none)(a:(A4y x y).f≠0):Sz (A4y x y).f:=by
 unfold A4y at a ⊢
 by_cases he:y.k= .end_
 . rw[aC he] at a ⊢
   exact c.bg.sz a
 rw[aA he] at a ⊢
 have b:=C8v c d fun z=>f ⟨C5h e he,z⟩
 exact sz5 a ⟨b.1,b.2.1⟩
def V1b{v:Cv}{x y:Nm}(ok:v.Ok)(c:x.Ok)(b:y.Ok):W32 (Fre v x y).1:=by
 unfold Fre reR
 split
 . exact A0a
 rename_i e
 split
 . exact A0a
 split
 . exact A0a
 rename_i d
 have a:=J3c c b d fun z=>e (.inr z)
 split
 . rename_i he
   unfold A4y at a ⊢
   rw[aC he] at a ⊢
   exact A9w ok fun _=>a
 rename_i he
 split
 . exact A0a
 unfold A4y at a ⊢
 rw[aA he] at a ⊢
 exact A9w ok fun _=>a
def U6b{g:Int}{v:Cv}{x y:Nm}(ok:v.Ok)(b:x.Ok)(a:y.Ok):W32 (Fch g v x y).1:=by
 unfold Fch G2r D0d
 cases B3w x y with
 |none=>exact A0a
 | some o=>
   dsimp only
   split
   . exact A9w ok fun _=>b.bg.sz
   . exact A9w ok fun _=>a.bg.sz
def B9q{s f p:Int}(d:0<=f)(c:f<=10^24)(b: -200<=p)(a:p<=200):W32 ⟨k,s,f,p⟩:=fun _=>⟨d,Int.le_trans c (by decide+kernel),b,a⟩
def U7z{f s:Int}(h:0<=f):0<=whI f 1 s:=iF (fC h (bB (D7 _))) (bB (bT (by decide) (D7 _)))
def V3q{v:Cv}{x y:Nm}(ok:v.Ok)(d:x.Ok)(c:y.Ok):W32 (Fsa v x y).1:=by
 have f:=A5s ok.r2
 have b:=c.p0;have a:=c.p1
 have g:=U7z (s:=x.p-y.p) d.f0
 have u:=J8z (y:=v.y) (s:=x.s) (wh:=whI x.f 1 (x.p-y.p)) (pt:=ptI x.f 1 (x.p-y.p))
 have e:upW v x y.p=upI v.y x.s (whI x.f 1 (x.p-y.p)) (ptI x.f 1 (x.p-y.p)):=rfl
 unfold Fsa saR
 split
 . exact A0a
 split
 . split
   . exact d.w3
   . exact A0a
 split
 . exact A0a
 split
 . exact A0a
 unfold C3g
 split
 . exact A0a
 rename_i h
 split
 . exact A0a
 split
 . exact B9q (by lia) (by lia) b a
 exact B9q (by lia) (by lia) b a
def V1k{x:Nm}(a:x.Sm):W32 (Fwh v x).1:=by
 unfold Fwh C3e
 dsimp only
 split
 . rename_i h
   have u:=J8z (y:=v.y) (s:=x.s) (wh:=whI x.f 1 x.p) (pt:=ptI x.f 1 x.p)
   have d:=U7z (s:=x.p) a.ok.f0
   have f:=h.2
   have c:whI x.f 1 x.p<=x.f:=by
     unfold whI
     rw[show A8 x.p=1 by unfold A8;rw[show x.p.toNat=0 by lia];rfl,fV,fY]
     exact kE _ a.ok.f0
   have b:=a.f24
   have e:A8 24=10^24:=by decide+kernel
   exact B9q (by lia) (by lia) (by decide) (by decide)
 exact a.ok.w3
def V1v{v:Cv}{x:Nm}(ok:v.Ok)(a:x.Ok):W32 (Ftr v x).1:=by
 unfold Ftr D4j
 split
 . split
   . exact B2v ok
   . rename_i h
     exact C0h ok (a.bg.sz h) Z4
 exact a.w3
def U5u{v:Cv}{x:Nm}{k:Int}(ok:v.Ok)(a:x.Ok):W32 (Fsc v x k).1:=by
 unfold Fsc scR
 split
 . exact A9w (x:=⟨.plain,x.s,x.f,x.p+k⟩) ok fun _=>a.bg.sz
 exact a.w3
def U6t{v:Cv}{x:Nm}{k:Int}(ok:v.Ok)(a:x.Sm)(k0: -20<=k)(k1:k<=20):W32 (Fpo v x k).1:=by
 unfold Fpo J4n
 split
 . exact A0a
 split
 . split
   . exact B9q (by decide) (by decide+kernel) (by decide) (by decide)
   . split
     . exact fun h=>nomatch h
     . exact B2v ok
 split
 . split
   . exact A0a
   . split
     . exact fun h=>nomatch h
     . exact B2v ok
 rename_i c
 have d:=a.ok.f0
 obtain⟨st,b,_⟩:=C4a (k:=k) (show 0<x.f by lia) a.f24 k0 k1
 exact C0h ok st b
def V1j{v:Cv}{x:Nm}(ok:v.Ok)(o:x.Ok):W32 (Fro v x).1:=by
 unfold Fro rootA
 split
 . exact A0a
 rename_i m
 split
 . exact B2v ok
 rename_i l
 split
 . exact A0a
 split
 . exact o.w3
 rename_i k
 intro f
 have n:=o.f0
 have r:x.f≠0:=fun z=>l ⟨C5h m k,z⟩
 have d:SzQ x.f:=⟨by lia,eF o.f1 (by decide+kernel)⟩
 have ld:=C6c d x.p
 obtain⟨r0,q,i⟩:=C6f ok d ld o.p0 o.p1
 have e:=B2y (t:=x.f) (s:=x.p-2*v.fin (B0m x.f x.p)) (by lia)
 have g:=D0q ok (B0m x.f x.p)
 unfold setQ at f ⊢
 refine B7s ok e.1 i g.1 (fun z=>?_) f
 have p:=bT (show 0<x.f by lia) (D7 (x.p-2*v.fin (B0m x.f x.p)))
 constructor
 . rw[z]
   unfold D0p
   rw[aA (by rw[fq,fq];lia)]
   split<;>split<;>lia
 refine g.2 (aX fun h=>?_)
 have j:=e.2.2
 rw[z,show((0:Int)+1)*(0+1)=1 by decide,fY] at j
 have a:A8 (-(x.p-2*v.fin (B0m x.f x.p)))<=A8 (-(x.p-2*B0m x.f x.p)):=Z7 (by lia)
 have b:x.f*A8 (x.p-2*B0m x.f x.p)<=x.f*A8 (x.p-2*v.fin (B0m x.f x.p)):=cB (Z7 (by lia)) n
 have c:=ld.1
 lia
def U4u{g :Int}{v:Cv}{x:Nm}(ok:v.Ok)(o:x.Ok):W32 (Fne g v x).1:=by
 have j:=A5s ok.r2
 have p:A8 1<=A8 v.r:=Z7 ok.r1
 have E:A8 1=10:=rfl
 have s:=ok.r1;have r:=ok.r2;have u:=ok.m1;have t:=ok.m2;have A:=ok.l1;have y:=ok.l2
 have a:W32 ⟨.plain,x.s,A8 v.r-1,v.m-v.r+1⟩:=B9q (by lia) (by lia) (by lia) (by lia)
 unfold Fne stepN
 cases B:x.k with
 |none=>exact fun h=>nomatch h
 | end_=>
   dsimp only
   split
   . exact o.w3
   . exact a
 | plain =>
   dsimp only
   split
   . exact B9q (by decide) (by decide+kernel) (by lia) (by lia)
   . rename_i l
     have sz:=o.bg.sz l
     have ld:=A5p sz Z4 x.p
     generalize x.p+A1j x.f 1=L at ld
     have i:=D0y ok sz ld
     have D:=D0q ok L
     split
     . unfold J2w
       split
       . exact fun h=>nomatch h
       . rename_i c
         have k:0<(A1y v.r (whI x.f 1 (x.p-v.fin L)+1) (v.fin L)).1/\(A1y v.r (whI x.f 1 (x.p-v.fin L)+1) (v.fin L)).1<=10^24/\v.fin L<=(A1y v.r (whI x.f 1 (x.p-v.fin L)+1) (v.fin L)).2:=by
           unfold A1y
           split
           . exact⟨by show 0<(whI x.f 1 (x.p-v.fin L)+1)/10;lia,by show(whI x.f 1 (x.p-v.fin L)+1)/10<=10^24;lia,by show v.fin L<=v.fin L+1;lia⟩
           . exact⟨by show 0<whI x.f 1 (x.p-v.fin L)+1;lia,by show whI x.f 1 (x.p-v.fin L)+1<=10^24;lia,fK _⟩
         generalize A1y v.r (whI x.f 1 (x.p-v.fin L)+1) (v.fin L)=q at k c
         have m:(10:Int)^24<10^60-1:=by decide+kernel
         unfold A0j at c
         rw[aA (show q.1≠0 by lia)] at c
         have h:¬q.2+A6k q.1-1>v.m:=fun h=>c (aT h)
         have b:=(G1r (A8s (f:=q.1) (by lia) (by lia) (by lia))).2.2
         exact B9q (by lia) (by lia) (by lia) (by lia)
     . unfold D4v
       split
       . exact a
       . rename_i C
         have e:v.fin L<=200:=by
           unfold Cv.fin A2x
           split<;>lia
         split
         . rename_i d
           split
           . exact B9q (by lia) (by lia) (by lia) (by lia)
           . have n:whI x.f 1 (x.p-v.fin L)≠0:=fun z=>by
               unfold ptI at d
               rw[z,fq,kG] at d
               exact C0r (bT (by have:=sz.1;lia) (D7 _)) d
             exact B9q (by lia) (by lia) (by lia) e
         . exact B9q i.1 (by lia) (by lia) e
inductive sp1(d e f:Addr)(F:Cv ->Nm ->Nm×List Str)(vs:List V)(H:Hp)(Q:VK)(E:XK):Prop
 |mk(c v a b xs ys n x)(_:vs=[.ref c,.ref n])(_:U5 e H c v a b xs ys)(_:v.Ok)(_:V7 xs=xs)(_:J0 d H n x)(_:x.Sm)(_:V9 d e f H c v b xs ys (F v x) Q E)
inductive sp2(h i j:Addr)(F:Cv ->Nm ->Nm ->Nm×List Str)(vs:List V)(H:Hp)(Q:VK)(E:XK):Prop
 |mk(c v a b xs ys g f e d)(_:vs=[.ref c,.ref g,.ref f])(_:U5 i H c v a b xs ys)(_:v.Ok)(_:V7 xs=xs)(_:Two h H g f e d)(_:e.Sm)(_:d.Sm)(_:V9 h i j H c v b xs ys (F v e d) Q E)
inductive sp3(g k l:Addr)(vs:List V)(H:Hp)(Q:VK)(E:XK):Prop
 |mk(c v a b xs ys j i h f e d)(_:vs=[.ref c,.ref j,.ref i,.ref h])(_:U5 k H c v a b xs ys)(_:v.Ok)(_:V7 xs=xs)(_:Two g H j i f e)(_:J0 g H h d)(_:f.Sm)(_:e.Sm)(_:d.Sm)(_:V9 g k l H c v b xs ys (Ffu v f e d) Q E)
inductive spC(d e f:Addr)(m:Int)(F:Cv ->Nm ->Int ->Nm×List Str)(vs:List V)(H:Hp)(Q:VK)(E:XK):Prop
 |mk(c v a b xs ys n x) (k:Int)(_:vs=[.ref c,.ref n,.int k])(_:U5 e H c v a b xs ys)(_:v.Ok)(_:V7 xs=xs)(_:J0 d H n x)(_:x.Sm)(_: -m<=k)(_:k<=m)(_:V9 d e f H c v b xs ys (F v x k) Q E)
variable{k:Nat}{f:Addr}{fd:FuncData}{ps:List Str}{CN CC CT CB CB4:Addr}
def J6w{g:Int}(G:sI P w K Y Z k f fd ps (U1w K CN CC CT CB g)):sI P w K Y Z k f fd ps (sp2 CN CC CT (Fpm g)):=G.imp<|by
 rintro vs H Q E ⟨c,v,a,b,xs,ys,o,n,m,l,e,p,ok,h,d,j,i,k⟩
 exact⟨c,_,_,e,.inl ⟨v,a,b,xs,ys,o,n,m,l,_,rfl,rfl,p,ok,A7v h,h,d.1,d.2,j.ok,i.ok,G3m j.ok.bg (J6r i.ok),k⟩⟩
def U6j(G:sI P w K Y Z k f fd ps (D5f K CN CC CT CB)):sI P w K Y Z k f fd ps (sp2 CN CC CT Fti):=G.imp<|by
 rintro vs H Q E ⟨c,v,a,b,xs,ys,n,m,l,j,e,o,ok,g,d,i,h,k⟩
 exact⟨c,_,_,e,.inl ⟨v,a,b,xs,ys,n,m,l,j,_,rfl,rfl,o,ok,A7v g,g,d.1,d.2,i.ok,h.ok,B8e fun _=>(A6b i.ok h.ok).sz,k⟩⟩
def J6u{g:Int}(G:sI P w K Y Z k f fd ps (G5a K CN CC CT CB g)):sI P w K Y Z k f fd ps (sp2 CN CC CT (Fch g)):=G.imp<|by
 rintro vs H Q E ⟨c,v,a,b,xs,ys,q,p,o,n,e,r,ok,j,i,m,l,k⟩
 exact⟨c,_,_,e,.inl ⟨v,a,b,xs,ys,q,p,o,n,_,rfl,rfl,r,ok,A7v j,j,i.1,i.2,m.ok,l.ok,B8e fun _ d=>by
 unfold D0d at d ⊢
 split at d
 . exact absurd rfl d
 . split at d
   . rename_i h;rw[aC h];exact m.ok.bg.sz d
   . rename_i h;rw[aA h];exact l.ok.bg.sz d,k⟩⟩
def U5d(G:sI P w K Y Z k f fd ps (D5g K CN CC CT CB)):sI P w K Y Z k f fd ps (sp3 CN CC CT):=G.imp<|by
 rintro vs H Q E ⟨c,v,a,b,xs,ys,q,p,o,n,m,l,e,s,ok,g,d,r,j,i,h,k⟩
 exact⟨c,_,_,_,e,.inl ⟨v,a,b,xs,ys,q,p,o,n,m,l,_,rfl,rfl,rfl,s,ok,A7v g,g,d.1,d.2,r,j.ok,i.ok,h.ok,G3m (A6b j.ok i.ok) h.ok.bg,k⟩⟩
def U5m(G:sI P w K Y Z k f fd ps (G5f CN CC CT)):sI P w K Y Z k f fd ps (sp2 CN CC CT Fov):=G.imp<|by
 rintro vs H Q E ⟨c,v,a,b,xs,ys,n,m,j,i,e,p,ok,d,l,h,g,k⟩
 exact⟨c,v,a,b,xs,ys,n,m,j,i,_,e,p,ok,A7v d,d,l,h.ok,g.ok,fun q o=>A5p (h.ok.bg.sz o) (g.ok.bg.sz q.2.2) _,k⟩
def U8k(G:sI P w K Y Z k f fd ps (B5n CN CC CT)):sI P w K Y Z k f fd ps (sp2 CN CC CT Fwo):=G.imp<|by
 rintro vs H Q E ⟨c,v,a,b,xs,ys,n,m,j,i,e,p,ok,d,l,h,g,k⟩
 exact⟨c,v,a,b,xs,ys,n,m,j,i,_,e,p,ok,A7v d,d,l,h.ok,g.ok,fun q o=>A5p (sz5 o (C9b h.ok g.ok)) Z4 0,k⟩
def U4p(G:sI P w K Y Z k f fd ps (G4w CN CC CT)):sI P w K Y Z k f fd ps (sp2 CN CC CT Fsa):=G.imp<|by
 rintro vs H Q E ⟨c,v,a,b,xs,ys,n,m,h,g,e,o,ok,d,i,l,j,k⟩
 exact⟨c,v,a,b,xs,ys,n,m,h,g,0,e,o,ok,A7v d,d,i,l.ok,j.ok,trivial,k⟩
def U5c(G:sI P w K Y Z k f fd ps (G5b K CN CC CT CB)):sI P w K Y Z k f fd ps (sp1 CN CC CT Fro):=G.imp<|by
 rintro vs H Q E ⟨c,v,a,b,xs,ys,n,x,e,h,ok,d,g,o,k⟩
 exact⟨c,_,e,.inl ⟨v,a,b,xs,ys,n,x,_,rfl,h,ok,A7v d,d,g,o.ok,fun _ i=>C6c ⟨by have:=o.ok.f0;lia,eF o.ok.f1 (by decide+kernel)⟩ _,k⟩⟩
def U6a(G:sI P w K Y Z k f fd ps (C1n CN CC)):sI P w K Y Z k f fd ps (sp1 CN CC CT Fwh):=G.imp<|by
 rintro vs H Q E ⟨c,v,a,b,xs,ys,n,x,e,g,ok,h,i,o,k⟩
 exact⟨c,v,a,b,xs,ys,n,x,e,g,i,o.ok,fun _ _ s d=>V9.calm k h s g d⟩
def U6z(G:sI P w K Y Z k f fd ps (C1g CN CC CT)):sI P w K Y Z k f fd ps (sp1 CN CC CT Ftr):=G.imp<|by
 rintro vs H Q E ⟨c,v,a,b,xs,ys,n,x,e,h,ok,d,g,o,k⟩
 exact⟨c,v,a,b,xs,ys,n,x,_,e,h,ok,A7v d,d,g,o.ok,B8e fun _=>o.ok.bg.sz,k⟩
def J6z{g:Int}(G:sI P w K Y Z k f fd ps (D1x CN CC g)):sI P w K Y Z k f fd ps (sp1 CN CC CT (Fne g)):=G.imp<|by
 rintro vs H Q E ⟨c,v,a,b,xs,ys,n,x,e,h,ok,i,j,o,k⟩
 exact⟨c,v,a,b,xs,ys,n,x,_,e,h,ok,j,o.ok,B8e fun _=>o.ok.bg.sz,fun _ _ s d=>V9.calm k i s h d⟩
def U8a(G:sI P w K Y Z k f fd ps (J7r K CN CC CT CB CB4)):sI P w K Y Z k f fd ps (spC CN CC CT 20 Fpo):=G.imp<|by
 rintro vs H Q E ⟨c,v,a,b,xs,ys,n,x,m,e,i,ok,d,h,o,k0,k1,k⟩
 exact⟨c,_,_,e,.inl ⟨v,a,b,xs,ys,n,x,m,_,rfl,rfl,i,ok,A7v d,d,h,o,k0,k1,fun _ j=>by
 have l:=o.ok.f0
 obtain⟨st,g,_⟩:=C4a (k:=m) (show 0<x.f by lia) o.f24 k0 k1
 exact A5p st g _,k⟩⟩
def U4z(G:sI P w K Y Z k f fd ps (C8d CN CC CT)):sI P w K Y Z k f fd ps (spC CN CC CT 100 Fsc):=G.imp<|by
 rintro vs H Q E ⟨c,v,a,b,xs,ys,n,x,m,e,i,ok,d,g,o,k0,k1,k⟩
 exact⟨c,v,a,b,xs,ys,n,x,m,_,e,i,ok,A7v d,d,g,o.ok,k0,k1,fun _ h=>A5p (o.ok.bg.sz h) Z4 _,k⟩
def U5n(G:sI P w K Y Z k f fd ps (G4u CN CC CT)):sI P w K Y Z k f fd ps (sp2 CN CC CT Fre):=G.imp<|by
 rintro vs H Q E ⟨c,v,a,b,xs,ys,p,o,h,g,e,r,ok,l,n,i,j,k⟩
 exact⟨c,v,a,b,xs,ys,p,o,h,g,_,e,r,ok,A7v l,l,n,i.ok,j.ok,B8e fun _ d=>by
 by_cases m:g.f=0
 . unfold A4y at d ⊢
   by_cases he:g.k= .end_
   . rw[aC he] at d ⊢
     exact i.ok.bg.sz d
   . rw[aA he] at d ⊢
     have s:(A7z h g).f=A1b h (A1v h g):=by
       unfold A7z
       dsimp only
       rw[show A1b g (A1v h g)=0 by unfold A1b;rw[m,fq],Int.mul_zero,kG]
     rw[s] at d ⊢
     obtain⟨t,b2,b3⟩:=C5s h g
     have:=i.ok.p1;have:=j.ok.p0;have:=i.ok.p0;have:=j.ok.p1
     exact(B2w (q:=A1v h g) i.ok (fun z=>d (by unfold A1b;rw[z,fq])) (by lia)).sz
 . unfold A4y at d ⊢
   split at d
   . rename_i he;rw[aC he];exact i.ok.bg.sz d
   . rename_i he;rw[aA he]
     have b:=C8v i.ok j.ok m
     exact sz5 d ⟨b.1,b.2.1⟩,k⟩
abbrev C2f:Stmt:=(top 132)
abbrev C3y:Stmt:=(top 131)
def OP2(nm:Str)(v:Cv)(x y:Nm):Nm×List Str:=if nm="plus" then Fpm 0 v x y else if nm="minus" then Fpm 1 v x y else if nm="times" then Fti v x y else if nm="over" then Fov v x y else if nm="whole over" then Fwo v x y else if nm="rest" then Fre v x y else if nm="same power" then Fsa v x y else if nm="lesser" then Fch 0 v x y else Fch 1 v x y
def OP1(nm:Str)(v:Cv)(x:Nm):Nm×List Str:=if nm="root" then Fro v x else if nm="to whole" then Fwh v x else if nm="trimmed" then Ftr v x else if nm="next up" then Fne 0 v x else Fne 1 v x
def J7k{v:Cv}{x y:Nm}(ok:v.Ok)(b:x.Ok)(a:y.Ok):W32 (OP2 nm v x y).1:=by
 unfold OP2
 repeat' split
 . exact U5q ok b a
 . exact U5q ok b a
 . exact V1a ok b a
 . exact V1q ok b a
 . exact V1f ok b a
 . exact V1b ok b a
 . exact V3q ok b a
 . exact U6b ok b a
 exact U6b ok b a
def J7n{v:Cv}{x:Nm}(ok:v.Ok)(a:x.Sm):W32 (OP1 nm v x).1:=by
 unfold OP1
 repeat' split
 . exact V1j ok a.ok
 . exact V1k a
 . exact V1v ok a.ok
 . exact U4u ok a.ok
 exact U4u ok a.ok
inductive Op(P:Program)(w:World)(K:Frag)(mg:Str ->Option Value)(base:Heap)(nm:String)(ps:List Str)(st:Stmt)(sp:Sp):Prop
 |mk:∀(f fd),Def K mg (Str.ofString nm) ps st f fd ->sI P w K mg base 8 f fd ps sp ->Op P w K mg base nm ps st sp
inductive D5p(CN CC CT:Addr)(vs:List V)(H:Hp)(Q:VK)(E:XK):Prop
 |mk(c v a b xs ys nm h g e d)(_:vs=[.ref c,.str nm,.ref h,.ref g])(_:U5 CC H c v a b xs ys)(_:v.Ok)(_:V7 xs=xs)(_:Two CN H h g e d)(_:e.Sm)(_:d.Sm)(_:V9 CN CC CT H c v b xs ys (OP2 nm v e d) Q E)
inductive J7w(CN CC CT:Addr)(vs:List V)(H:Hp)(Q:VK)(E:XK):Prop
 |mk(c v a b xs ys nm n x)(_:vs=[.ref c,.str nm,.ref n])(_:U5 CC H c v a b xs ys)(_:v.Ok)(_:V7 xs=xs)(_:J0 CN H n x)(_:x.Sm)(_:V9 CN CC CT H c v b xs ys (OP1 nm v x) Q E)
structure U1x(P:Program)(w:World)(K:Frag)(mg:Str ->Option Value)(base:Heap)(CN CC CT:Addr):Prop where
 plus:Op P w K mg base "plus" Q0 D3c (sp2 CN CC CT (Fpm 0))
 minus:Op P w K mg base "minus" Q0 C3r (sp2 CN CC CT (Fpm 1))
 times:Op P w K mg base "times" Q0 C4g (sp2 CN CC CT Fti)
 over:Op P w K mg base "over" Q0 D4d (sp2 CN CC CT Fov)
 whole_over:Op P w K mg base "whole_over" Q0 A7k (sp2 CN CC CT Fwo)
 rest_of:Op P w K mg base "rest_of" Q0 B6m (sp2 CN CC CT Fre)
 same_power:Op P w K mg base "same_power" Q0 A6x (sp2 CN CC CT Fsa)
 lesser:Op P w K mg base "lesser" Q0 B6n (sp2 CN CC CT (Fch 0))
 greater:Op P w K mg base "greater" Q0 B1t (sp2 CN CC CT (Fch 1))
structure U2b(P:Program)(w:World)(K:Frag)(mg:Str ->Option Value)(base:Heap)(CN CC CT:Addr):Prop where
 root:Op P w K mg base "root" Q10 D3t (sp1 CN CC CT Fro)
 to_whole:Op P w K mg base "to_whole" Q10 B2t (sp1 CN CC CT Fwh)
 trimmed:Op P w K mg base "trimmed" Q10 B1n (sp1 CN CC CT Ftr)
 next_up:Op P w K mg base "next_up" Q10 B6g (sp1 CN CC CT (Fne 0))
 next_down:Op P w K mg base "next_down" Q10 B6d (sp1 CN CC CT (Fne 1))
def J4h:B9 Q38 Q38 (A5 C2f):=scK
def G2s{f CN CC CT:Addr}(D:Def K Y "of_two" Q38 C2f f fd)(S:U1x P w K Y Z CN CC CT):sI P w K Y Z 9 f fd Q38 (D5p CN CC CT):=by
 refine okZ D.F J4h ?_
 rintro _ _ _ _ H _ Q E x u⟨c,v,a,b,xs,ys,nm,O,N,G,F,rfl,R,ok,J,I,M,L,k⟩
 obtain⟨⟨_,_,B,y⟩,⟨_,_,t,r⟩,⟨_,_,s,q⟩,⟨_,_,C,A⟩,⟨_,_,g,d⟩,⟨_,_,m,j⟩,⟨_,_,i,e⟩,⟨_,_,p,o⟩,⟨_,_,n,l⟩⟩:=S
 refine⟨_,(A2 (D3 (B5 D5 (pv 1) A9 B8) (A3 (A7 (B7 B y x u (A0 (pv 0) (A0 (pv 2) (A0 (pv 3) A1)))))) C0) (A2 (D3 (B5 D5 (pv 1) A9 B8) (A3 (A7 (B7 t r x u (A0 (pv 0) (A0 (pv 2) (A0 (pv 3) A1)))))) C0) (A2 (D3 (B5 D5 (pv 1) A9 B8) (A3 (A7 (B7 s q x u (A0 (pv 0) (A0 (pv 2) (A0 (pv 3) A1)))))) C0) (A2 (D3 (B5 D5 (pv 1) A9 B8) (A3 (A7 (B7 C A x u (A0 (pv 0) (A0 (pv 2) (A0 (pv 3) A1)))))) C0) (A2 (D3 (B5 D5 (pv 1) A9 B8) (A3 (A7 (B7 g d x u (A0 (pv 0) (A0 (pv 2) (A0 (pv 3) A1)))))) C0) (A2 (D3 (B5 D5 (pv 1) A9 B8) (A3 (A7 (B7 m j x u (A0 (pv 0) (A0 (pv 2) (A0 (pv 3) A1)))))) C0) (A2 (D3 (B5 D5 (pv 1) A9 B8) (A3 (A7 (B7 i e x u (A0 (pv 0) (A0 (pv 2) (A0 (pv 3) A1)))))) C0) (A2 (D3 (B5 D5 (pv 1) A9 B8) (A3 (A7 (B7 p o x u (A0 (pv 0) (A0 (pv 2) (A0 (pv 3) A1)))))) C0) (A3 (A7 (B7 n l x u (A0 (pv 0) (A0 (pv 2) (A0 (pv 3) A1)))))))))))))),?_⟩
 unfold OP2 at k
 iterate 8
   refine⟨rfl,rfl,?_⟩
   refine G5 (fun h=>by rw[aC (V.str.inj h)] at k;exact⟨c,v,a,b,xs,ys,O,N,G,F,rfl,R,ok,J,I,M,L,k⟩) (fun h=>?_)
   rw[aA (fun z=>h (aM V.str z))] at k
   clear h
 exact⟨c,v,a,b,xs,ys,O,N,G,F,rfl,R,ok,J,I,M,L,k⟩
def J4z:B9 Q39 Q39 (A5 C3y):=scK
def G4h{f CN CC CT:Addr}(D:Def K Y "of_one" Q39 C3y f fd)(S:U2b P w K Y Z CN CC CT):sI P w K Y Z 9 f fd Q39 (J7w CN CC CT):=by
 refine okZ D.F J4z ?_
 rintro _ _ _ _ H _ Q E t s⟨c,v,a,b,xs,ys,nm,n,x,rfl,A,ok,u,y,o,k⟩
 obtain⟨⟨_,_,r,q⟩,⟨_,_,i,g⟩,⟨_,_,m,j⟩,⟨_,_,p,l⟩,⟨_,_,e,d⟩⟩:=S
 refine⟨_,(A2 (D3 (B5 D5 (pv 1) A9 B8) (A3 (A7 (B7 r q t s (A0 (pv 0) (A0 (pv 2) A1))))) C0) (A2 (D3 (B5 D5 (pv 1) A9 B8) (A3 (A7 (B7 i g t s (A0 (pv 0) (A0 (pv 2) A1))))) C0) (A2 (D3 (B5 D5 (pv 1) A9 B8) (A3 (A7 (B7 m j t s (A0 (pv 0) (A0 (pv 2) A1))))) C0) (A2 (D3 (B5 D5 (pv 1) A9 B8) (A3 (A7 (B7 p l t s (A0 (pv 0) (A0 (pv 2) A1))))) C0) (A3 (A7 (B7 e d t s (A0 (pv 0) (A0 (pv 2) A1))))))))),?_⟩
 unfold OP1 at k
 iterate 4
   refine⟨rfl,rfl,?_⟩
   refine G5 (fun h=>by rw[aC (V.str.inj h)] at k;exact⟨c,v,a,b,xs,ys,n,x,rfl,A,ok,u,y,o,k⟩) (fun h=>?_)
   rw[aA (fun z=>h (aM V.str z))] at k
   clear h
 exact⟨c,v,a,b,xs,ys,n,x,rfl,A,ok,u,y,o,k⟩
abbrev D3g:Stmt:=(top 134)
inductive G5m(K:Frag)(vs:List V)(H:Hp)(Q:VK)(_:XK):Prop
 |mk(a ns k)(_:vs=[.ref a,.int k])(_:SqL K H a ((ns:List Int).map V.int))(_:0<=k)(_:∀i,Q (.int i) H)
def J9k:B9 Q51 Q51 (A5 D3g):=scK
def J1r(D:Def K Y "_law_cell_at" Q51 D3g f fd)(O:Own Y):sI P w K Y Z 1 f fd Q51 (G5m K):=by
 refine okY D.F J9k ?_
 rintro _ _ _ _ H _ Q E g _⟨a,ns,i,rfl,c,e,k⟩
 refine⟨_,(A2 (D3 (B5 B0k (pv 1) (G9 A0h (by rfl) O.len_ PySem.boot_len (A0 (pv 0) A1)) B8) (A3 (A7 (G7 G4 (pv 0) (pv 1) (fun _ _=>rfl)))) C0) (A3 (A7 A4))),a,_,rfl,.inl c,rfl,?_⟩
 refine G5 (fun b=>?_) (fun _=>k 0)
 rw[aP] at b
 obtain⟨j,rfl⟩:=aV e
 have d:j<ns.length:=by lia
 exact⟨rfl,rfl,c,D9 (v:=V.int ns[j]) (by simp[d]),k _⟩
abbrev B4j:Stmt:=(top 135)
inductive B6z(vs:List V)(H:Hp)(Q:VK)(_:XK):Prop
 |mk(c k)(_:vs=[.int c,.int k])(_:0<=k)(_:k<=100)(_:∀m,0<=m ->m<2147483629 ->Q (.int m) H)
def J5g:B9 Q52 Q52 (A5 B4j):=scK
def G4p(D:Def K Y "_law_mixed" Q52 B4j f fd):sI P w K Y Z 1 f fd Q52 B6z:=by
 refine okY D.F J5g ?_
 rintro _ _ _ _ H _ Q E n _⟨c,i,rfl,a,j,k⟩
 refine⟨_,(A3 (A7 (D0 Y2 (D0 V5 (D0 Y2 (D0 V8 (D0 V8 (D0 V5 (pv 0) (D0 V8 A4 (D0 V5 (D0 V5 A4 (pv 1)) (pv 1)))) (D0 V5 A4 (pv 1))) A4) A4) A4) A4))),?_⟩
 have m:(0:Int)<=2*i*i:=fC (by lia) a
 have l:2*i*i<=200*100:=fT (by lia) j a (by decide)
 have h:IntMulOk 2 i:=B1b.ok (.inl ⟨by decide,by decide⟩)
 have g:IntMulOk (2*i) i:=B1b.ok (.inr ⟨by lia,by lia⟩)
 have e:IntMulOk c (48271+2*i*i):=B1b.ok (.inr ⟨by lia,by lia⟩)
 have d:IntMulOk 69621 i:=B1b.ok (.inl ⟨by decide,by decide⟩)
 have b:∀z:Int,IntMulOk z 69621:=fun z=>B1b.ok (.inr ⟨by decide,by decide⟩)
 refine⟨h,g,e,d,(by show(0:Int)<2147483647;decide),b _,(by show(0:Int)<2147483629;decide),?_⟩
 exact k _ (eC _ (by decide)) (cQ _ (by decide))
abbrev B1x:Stmt:=(top 112)
abbrev B1p:Stmt:=(top 113)
abbrev B2b:Stmt:=(top 118)
abbrev A8g:Stmt:=(top 117)
abbrev B1m:Stmt:=(top 115)
abbrev A7e:Stmt:=(top 116)
def A2n(z:Str):Bool:=Txt.startswith z "-"
def C0d(z:Str):Bool:=Txt.startswith z "+"||Txt.startswith z "-"
def bare(z:Str):Str:=if C0d z=true then B5v z (some 1) none else z
def A7x(z:Str):Bool:= !(decide (z=""))&&decide (Txt.stripChars z "0123456789"="")
def B1u(z:Str):Int:=((NumText.digitsVal z.cps.toList:Nat):Int)
def B9s(z:Str):Option Int:=if A7x z=true then(if(Txt.lstripChars z "0").length>60 then none else some (B1u z)) else none
def shR(z:Str):Option Int:=if A7x (bare z)=true then(if(bare z).length>3 then none else some (if A2n z=true then -B1u (bare z) else B1u (bare z))) else none
def G3n:("":Str)=S []:=by decide+kernel
def V2h:("0123456789":Str)=S U1m:=by decide+kernel
def J5q:("0":Str)=S [48]:=by decide+kernel
def D1q:("-":Str)=S [45]:=by decide+kernel
def J4u:("+":Str)=S [43]:=by decide+kernel
def litE:("e":Str)=S [101]:=by decide+kernel
def B3r:(".":Str)=S [46]:=by decide+kernel
def A5m(l:List Nat):A7x (S l)=true↔l≠ []/\NumText.AllDigits l:=by
 unfold A7x
 rw[G3n,V2h,cK,iL,decide_eq_false_iff_not,decide_eq_true_iff,C8q]
 constructor
 . rintro⟨d,b⟩
   exact⟨fun z=>d (by rw[z]),fun c a=>(C6t c).mp (b c a)⟩
 rintro⟨d,b⟩
 exact⟨fun z=>d (C7r z),fun c a=>(C6t c).mpr (b c a)⟩
def B2e(z:Str):(bare z).length<=z.length:=by
 unfold bare
 split
 . rename_i h
   rw[<-B0e z] at h ⊢
   generalize z.cps.toList=l at*
   have b:1<=l.length:=by
     cases l with
     | nil=>
       unfold C0d at h
       rw[J4u,D1q,A8a,A8a] at h
       cases h
     |cons a t=>exact cY (bP _)
   have e:=A6e l 1 b
   rw[show((1:Nat):Int)=1 from rfl] at e
   rw[e,J1,J1,bZ]
   lia
 exact aO _
inductive B9c(vs:List V)(H:Hp)(Q:VK)(_:XK):Prop
 |mk(z:Str)(_:vs=[.str z])(_:Q (.int (if A2n z=true then 1 else 0)) H)
def G1f:B9 ["word"] ["word"] (A5 B1x):=scK
def D6g(D:Def K Y "sign_of" ["word"] B1x f fd):sI P w K Y Z 1 f fd ["word"] B9c:=by
 refine okZ D.F G1f ?_
 rintro _ _ _ _ H _ Q E c b⟨z,rfl,k⟩
 refine⟨_,(A3 (A7 (G6 (V3 (A1x F.plainAttrs_str iX F.type_str_startswith B3q (pv 0) (A0 A9 A1))) A4 A4))),rfl,z,_,rfl,rfl,rfl,?_⟩
 unfold A2n at k
 cases a:Txt.startswith z "-" with
 |true=>rw[a] at k;exact Y9 k
 |false=>rw[a] at k;exact V4 k
inductive B9b(vs:List V)(H:Hp)(Q:VK)(_:XK):Prop
 |mk(z:Str)(_:vs=[.str z])(_:z.length<=1000)(_:∀a,C9 H a ->Q (.str (bare z)) a)
def G1q:B9 ["word"] ["word"] (A5 B1p):=scK
def D8p(D:Def K Y "without_sign" ["word"] B1p f fd):sI P w K Y Z 1 f fd ["word"] B9b:=by
 refine okZ D.F G1q ?_
 rintro _ _ _ _ H _ Q E h g⟨z,rfl,e,k⟩
 have c:2<=sizeLine:=C6 (by decide)
 refine⟨_,(A3 (A7 (G6 (V3 (A1x F.plainAttrs_str iX F.type_str_startswith D1t (pv 0) (A0 (A0s (A0 A9 (A0 A9 A1))) A1))) (Z8 B0x (pv 0) (A0p A4) A0q) (pv 0)))),rfl,c,fun p d=>⟨z,p,_,_,rfl,rfl,A6,rfl,?_⟩⟩
 have k:=k _ (C9.upd (o:= .tup [.str "+",.str "-"]) d)
 have a:=B2e z
 unfold bare C0d at k a
 cases b:(Txt.startswith z "+"||Txt.startswith z "-") with
 | true=>
   rw[b,aC rfl] at k a
   exact Y9 ⟨1,rfl,z,rfl,C6 (bS a e),k⟩
 | false=>
   rw[b,aA aB] at k
   exact V4 k
inductive G5j(vs:List V)(H:Hp)(Q:VK)(_:XK):Prop
 |mk(z:Str)(_:vs=[.str z])(_:z.length<=1000)(_:Q (.bl (A7x z)) H)
def G3p:B9 ["digits"] ["digits"] (A5 B2b):=scK
def C0f(D:Def K Y "are_figures" ["digits"] B2b f fd):sI P w K Y Z 1 f fd ["digits"] G5j:=by
 refine okZ D.F G3p ?_
 rintro _ _ _ _ H _ Q E h g⟨z,rfl,e,k⟩
 refine⟨_,(A3 (A7 (A7b (V6 A5b (pv 0) A9 B8) (A3y (V6 D5 (A1x F.plainAttrs_str F.slot_str_strip F.type_str_strip C5k (pv 0) (A0 A9 A1)) A9 B8))))),rfl,rfl,?_⟩
 have d:∀a b:Str,decide (V.str a=V.str b)=decide (a=b):=fun a b=>decide_eq_decide.mpr ⟨fun z=>by injection z,fun z=>by rw[z]⟩
 unfold A7x at k
 rw[d]
 cases c:decide (z="") with
 | true=>
   rw[c] at k
   exact V4 k
 | false=>
   rw[c] at k
   refine Y9 ⟨rfl,z,_,rfl,rfl,C6 e,rfl,?_⟩
   rw[d]
   exact k
inductive B4v(CB:Addr)(vs:List V)(H:Hp)(Q:VK)(E:XK):Prop
 |mk(z:Str)(_:vs=[.str z])(_:z.length<=1000)(_:(A7x z=true/\Q .non H)\/(A7x z=false/\E (.ref CB) none H))
def D7v:B9 ["digits"] ["digits"] (A5 A8g):=scK
def D0e{f j CB:Addr}(D:Def K Y "need_figures" ["digits"] A8g f fd)(g:Def K Y "are_figures" ["digits"] B2b j i)(B:Err K Y "NoText" CB):sI P w K Y Z 2 f fd ["digits"] (B4v CB):=by
 have a:=C0f (P:=P) (w:=w) (Z:=Z) g
 refine okZ D.F D7v ?_
 rintro _ _ _ _ H _ Q E e d⟨z,rfl,c,h⟩
 refine⟨_,(A3 (D3 (A2t (V3 (B7 g a e d (A0 (pv 0) A1)))) (A3 (A0v (by rfl) B.g B.q F.excBase_ValueError e.hd d (A0 A9 A1))) C0)),?_⟩
 rcases h with⟨b,k⟩|⟨b,k⟩
 . refine⟨z,rfl,c,?_⟩
   rw[b]
   exact⟨rfl,V4 k⟩
 refine⟨z,rfl,c,?_⟩
 rw[b]
 exact⟨rfl,Y9 ⟨C6 (by show 1<=1000;decide),k⟩⟩
def D1p(z:Str):(Txt.lstripChars z "0").length<=z.length:=by
 rw[<-B0e z,J5q,B2q,J1,J1]
 exact(dI _).length_le
def V3a(h:A7x z=true)(b:(Txt.lstripChars z "0").length<=60):PySem.intText? (("0":Str)++Txt.lstripChars z "0")=some (B1u z):=by
 unfold B1u
 rw[<-B0e z] at h b ⊢
 generalize z.cps.toList=l at*
 have d:=((A5m l).mp h).2
 rw[J5q,B2q] at b ⊢
 rw[J1] at b
 rw[A0g,A1h]
 have e:NumText.digitsVal (S ([48]++l.dropWhile ([48]:List Nat).contains)).cps.toList=NumText.digitsVal l:=by
   rw[A1h]
   exact(A9s 1 _).trans (C5j l)
 rw[<-e]
 refine PySem.intText_digits ?_ ?_ ?_
 . rw[A1h]
   intro c a
   rcases bO.mp a with a|a
   . rw[bE.mp a]
     decide
   . exact d c ((dI _).mem a)
 . rw[A1h]
   exact fun z=>nomatch z
 rw[J1,aG]
 show 1+_<=4300
 lia
inductive C1r(CB:Addr)(vs:List V)(H:Hp)(Q:VK)(E:XK):Prop
 |mk(z:Str)(_:vs=[.str z])(_:z.length<=1000)(_:(∃n,B9s z=some n/\Q (.int n) H)\/(B9s z=none/\E (.ref CB) none H))
def scFigRead:B9 ["digits","counted"] ["digits"] (A5 B1m):=scK
def C9d{f p CB:Addr}(D:Def K Y "figures_read" ["digits"] B1m f fd)(s:Def K Y "need_figures" ["digits"] A8g p g)(r:sI P w K Y Z 2 p g ["digits"] (B4v CB))(B:Err K Y "NoText" CB)(O:Own Y):sI P w K Y Z 3 f fd ["digits"] (C1r CB):=by
 refine okZ D.F scFigRead ?_
 rintro _ _ _ _ H _ Q E m l⟨z,rfl,d,h⟩
 refine⟨_,(A2 (C8 (J9 (B7 s r m l (A0 (pv 0) A1)))) (A2 (C8 (psz (i:=1) scFigRead.nd (A1x PySem.F.plainAttrs_str PySem.F.slot_str_lstrip PySem.F.type_str_lstrip D5w (pv 0) (A0 A9 A1)))) (A2 (C8 (D3 (B5 A5n (G9 A0m (by rfl) O.len_ PySem.boot_len (A0 (pv 1) A1)) A4 B8) (A3 (C8 (A0v (by rfl) B.g B.q PySem.F.excBase_ValueError m.hd l (A0 A9 A1)))) C0)) (A3 (A7 (U8 Y5 (by rfl) O.int_ gZ (A0 (D0 V1 A9 (pv 1)) A1))))))),?_⟩
 unfold B9s at h
 by_cases b:A7x z=true
 . rw[aC b] at h
   refine⟨fun a c=>c=H/\a=[sR z,none],⟨z,rfl,d,.inl ⟨b,rfl,rfl⟩⟩,?_⟩
   rintro a u ⟨rfl,rfl⟩
   refine⟨fun a c=>c=u/\a=[sR z,sR (Txt.lstripChars z "0")],⟨rfl,z,_,rfl,rfl,C6 d,rfl,rfl⟩,?_⟩
   rintro a t ⟨rfl,rfl⟩
   have v:=D1p z
   by_cases o:(Txt.lstripChars z "0").length>60
   . rw[aC o] at h
     rcases h with⟨n,e,_⟩|⟨_,k⟩
     . cases e
     . exact⟨fun _ _=>False,⟨_,rfl,C6 (by lia),rfl,Y8 (show(60:Int)<((Txt.lstripChars z "0").length:Int) by lia) ⟨fun _ _=>False,⟨C6 (by show 1<=1000;decide),k⟩,fun _ _ h=>h.elim⟩⟩,fun _ _ h=>h.elim⟩
   . rw[aA o] at h
     rcases h with⟨n,e,k⟩|⟨e,_⟩
     . obtain rfl:=bF e
       have j:("0":Str).length=1:=by decide+kernel
       refine⟨fun a c=>c=t/\a=[sR z,sR (Txt.lstripChars z "0")],⟨_,rfl,C6 (by lia),rfl,Y0 (show¬(60:Int)<((Txt.lstripChars z "0").length:Int) by lia) ⟨rfl,rfl⟩⟩,?_⟩
       rintro a x ⟨rfl,rfl⟩
       exact⟨_,_,rfl,rfl,C6 (by rw[j];lia),_,_,rfl,V3a b (by lia),by rw[aK,j];lia,k⟩
     . cases e
 rw[aA b] at h
 rcases h with⟨n,e,_⟩|⟨_,k⟩
 . cases e
 exact⟨fun _ _=>False,⟨z,rfl,d,.inr ⟨by cases q:A7x z with|true=>exact absurd q b|false=>rfl,k⟩⟩,fun _ _ h=>h.elim⟩
def J4v{z:Str}(h:A7x z=true)(a:z.length<=640):PySem.intText? z=some (B1u z):=by
 unfold B1u
 rw[<-B0e z] at h a ⊢
 generalize z.cps.toList=l at*
 obtain⟨n,d⟩:=(A5m l).mp h
 rw[J1] at a
 exact PySem.intText_digits (by rw[A1h];exact d) (by rw[A1h];exact n) (by rw[J1];lia)
inductive B5s(CB:Addr)(vs:List V)(H:Hp)(Q:VK)(E:XK):Prop
 |mk(z:Str)(_:vs=[.str z])(_:z.length<=1000)(_:(∃n,shR z=some n/\∀a,C9 H a ->Q (.int n) a)\/(shR z=none/\∀a,C9 H a ->E (.ref CB) none a))
def scShiftRead:B9 ["tail","digits"] ["tail"] (A5 A7e):=scK
def C2q{f u t s CB:Addr}(D:Def K Y "shift_read" ["tail"] A7e f fd)(I:Def K Y "need_figures" ["digits"] A8g u o)(G:sI P w K Y Z 2 u o ["digits"] (B4v CB))(F:Def K Y "without_sign" ["word"] B1p t m)(C:sI P w K Y Z 1 t m ["word"] B9b)(A:Def K Y "sign_of" ["word"] B1x s l)(y:sI P w K Y Z 1 s l ["word"] B9c)(B:Err K Y "NoText" CB)(O:Own Y):sI P w K Y Z 3 f fd ["tail"] (B5s CB):=by
 refine okZ D.F scShiftRead ?_
 rintro _ _ _ _ H _ Q E g d⟨z,rfl,x,h⟩
 refine⟨_,(A2 (C8 (psz (i:=1) scShiftRead.nd (B7 F C g d (A0 (pv 0) A1)))) (A2 (C8 (J9 (B7 I G g d (A0 (pv 1) A1)))) (A2 (C8 (D3 (B5 A5n (G9 A0m (by rfl) O.len_ PySem.boot_len (A0 (pv 1) A1)) A4 B8) (A3 (C8 (A0v (by rfl) B.g B.q PySem.F.excBase_ValueError g.hd d (A0 A9 A1)))) C0)) (A3 (A7 (G6 (B5 D5 (B7 A y g d (A0 (pv 0) A1)) A4 B8) (A5c A2k (U8 Y5 (by rfl) O.int_ gZ (A0 (pv 1) A1))) (U8 Y5 (by rfl) O.int_ gZ (A0 (pv 1) A1)))))))),?_⟩
 have M:=B2e z
 refine⟨fun a c=>C9 H c/\a=[sR z,sR (bare z)],⟨z,rfl,x,fun c v=>⟨v,rfl⟩⟩,?_⟩
 rintro a L ⟨j,rfl⟩
 unfold shR at h
 by_cases b:A7x (bare z)=true
 . rw[aC b] at h
   refine⟨fun a c=>c=L/\a=[sR z,sR (bare z)],⟨_,rfl,by lia,.inl ⟨b,rfl,rfl⟩⟩,?_⟩
   rintro a J ⟨rfl,rfl⟩
   by_cases r:(bare z).length>3
   . rw[aC r] at h
     rcases h with⟨n,e,_⟩|⟨_,k⟩
     . cases e
     . exact⟨fun _ _=>False,⟨_,rfl,C6 (by lia),rfl,Y8 (show(3:Int)<((bare z).length:Int) by lia) ⟨fun _ _=>False,⟨C6 (by show 1<=1000;decide),k _ j⟩,fun _ _ h=>h.elim⟩⟩,fun _ _ h=>h.elim⟩
   . rw[aA r] at h
     rcases h with⟨n,e,k⟩|⟨e,_⟩
     . obtain rfl:=bF e
       refine⟨fun a c=>c=J/\a=[sR z,sR (bare z)],⟨_,rfl,C6 (by lia),rfl,Y0 (show¬(3:Int)<((bare z).length:Int) by lia) ⟨rfl,rfl⟩⟩,?_⟩
       rintro a N ⟨rfl,rfl⟩
       have k:=k _ j
       refine⟨z,rfl,rfl,rfl,?_⟩
       cases p:A2n z with
       | true=>
         rw[p,aC rfl] at k
         exact Y8 rfl ⟨_,_,rfl,J4v b (by lia),by lia,k⟩
       | false=>
         rw[p,aA aB] at k
         exact Y0 (by intro q;cases q) ⟨_,_,rfl,J4v b (by lia),by lia,k⟩
     . cases e
 rw[aA b] at h
 rcases h with⟨n,e,_⟩|⟨_,k⟩
 . cases e
 exact⟨fun _ _=>False,⟨_,rfl,by lia,.inr ⟨by cases q:A7x (bare z) with|true=>exact absurd q b|false=>rfl,k _ j⟩⟩,fun _ _ h=>h.elim⟩
abbrev A7g:Stmt:=(top 114)
abbrev B7t:Stmt:=(top 111)
abbrev ptE(z:Str):Str×Str×Str:=Txt.partition z "e"
abbrev ptD(z:Str):Str×Str×Str:=Txt.partition z "."
def plR(z:Str):Option (Int×Int):=(B9s ((ptD (ptE z).1).1++(ptD (ptE z).1).2.2)).bind fun f=>(if(ptE z).2.1="e" then shR (ptE z).2.2 else some 0).map fun s=>(f,s-((ptD (ptE z).1).2.2.length:Nat))
def D4q(z:Str)(i j:Nat):(Builtin.Str.strSub z i j).length<=z.length:=by
 rw[<-B0e z,B7n,J1,J1,bZ]
 have:=List.length_take_le' j z.cps.toList
 lia
def C7t(z y:Str):(Txt.partition z y).1.length<=z.length/\(Txt.partition z y).2.2.length<=z.length:=by
 unfold Txt.partition
 split
 . exact⟨D4q _ _ _,D4q _ _ _⟩
 exact⟨aO _,bP _⟩
def D7r(z y:Str):(Txt.stripChars z y).length<=z.length:=by
 rw[<-B0e z, <-B0e y,C4e,J1,J1,fi]
 have a:=(dI (l:=(z.cps.toList.dropWhile y.cps.toList.contains).reverse) y.cps.toList.contains).length_le
 have b:=(dI (l:=z.cps.toList) y.cps.toList.contains).length_le
 rw[fi] at a
 lia
def D6t{n:Int}(h:B9s z=some n):0<=n/\n<=10^60-1:=by
 unfold B9s at h
 split at h
 . rename_i b
   split at h
   . cases h
   . rename_i g
     obtain rfl:=bF h
     unfold B1u
     rw[<-B0e z] at b g ⊢
     generalize z.cps.toList=l at*
     rw[A1h,J5q,B2q,J1] at*
     rw[<-C5j l]
     have lt:∀m:List Nat,NumText.AllDigits m ->NumText.digitsVal m<10^m.length:=by
       intro m
       induction m with
       |nil=>intro _;decide
       | cons c t e=>
         intro a
         have q:=a.head
         have o:=e a.tail
         rw[show c::t=[c]++t from rfl,C4b,aG]
         show(0*10+(c-48))*10^t.length+_<10^(1+t.length)
         rw[cN,Nat.zero_mul,Nat.zero_add]
         have:(c-48)*10^t.length<=9*10^t.length:=hV _ (by lia)
         lia
     have d:=((A5m l).mp b).2
     have:=lt (l.dropWhile ([48]:List Nat).contains) fun c i=>d c ((dI _).mem i)
     have p:10^(l.dropWhile ([48]:List Nat).contains).length<=10^60:=bH (by decide) (by lia)
     have j:((10^60:Nat):Int)=10^60:=by decide+kernel
     lia
 cases h
inductive B5p(CN:Addr)(vs:List V)(H:Hp)(Q:VK)(_:XK):Prop
 |mk(s:Int) (z:Str) (f p:Int)(_:vs=[.int s,.str z])(_:0<=s)(_:s<=1)(_:z.length<=400)(_:plR z=some (f,p))(_: -200<=p)(_:p<=200)(_:∀n a,H n=none ->C9 H a ->J0 CN a n ⟨.plain,s,f,p⟩ ->Q (.ref n) a)
def scPlainRead:B9 ["sign","body","parts","halves","figures","shift"] Q45 (A5 A7g):=scK
def C2c{f F N M CN CB G:Addr}(D:Def K Y "plain_read" Q45 A7g f fd)(dA:Def K Y "figures_read" ["digits"] B1m F C)(dB:sI P w K Y Z 3 F C ["digits"] (C1r CB))(dC:Def K Y "shift_read" ["tail"] A7e N B)(dE:sI P w K Y Z 3 N B ["tail"] (B5s CB))(dF:Def K Y "plain" Q23 B7h M A)(dG:sI P w K Y Z 3 M A Q23 (C4q K CN G))(O:Own Y):sI P w K Y Z 4 f fd Q45 (B5p CN):=by
 refine okZ D.F scPlainRead ?_
 rintro _ _ _ _ H _ Q E y J⟨g,z,l,v,rfl,s0,t,hz,c,X,W,k⟩
 refine⟨_,(A2 (C8 (psz (i:=2) scPlainRead.nd (A1x PySem.F.plainAttrs_str PySem.F.slot_str_partition PySem.F.type_str_partition D4g (pv 1) (A0 A9 A1)))) (A2 (C8 (psz (i:=3) scPlainRead.nd (A1x PySem.F.plainAttrs_str PySem.F.slot_str_partition PySem.F.type_str_partition D4g (G7 A0d (pv 2) A4 (fun _ _=>rfl)) (A0 A9 A1)))) (A2 (C8 (psz (i:=4) scPlainRead.nd (B7 dA dB y J (A0 (D0 V1 (G7 A0d (pv 3) A4 (fun _ _=>rfl)) (G7 A0d (pv 3) A4 (fun _ _=>rfl))) A1)))) (A2 (C8 (psz (i:=5) scPlainRead.nd (G6 (B5 D5 (G7 A0d (pv 2) A4 (fun _ _=>rfl)) A9 B8) (B7 dC dE y J (A0 (G7 A0d (pv 2) A4 (fun _ _=>rfl)) A1)) A4))) (A3 (C8 (J1f (fun I Ew xu hc=>(A3 (A7 (B7 dF dG y hc (A0 (pv 0) (A0 (pv 4) (A0 (D0 Y4 (pv 5) (G9 A0m (by rfl) O.len_ PySem.boot_len (A0 (G7 (J4q (K:=K) rfl) (pv 3) A4 (fun _ _=>rfl)) A1))) A1)))))))))))))),?_⟩
 have l1:(ptE z).1.length<=z.length/\(ptE z).2.2.length<=z.length:=C7t z "e"
 have l2:(ptD (ptE z).1).1.length<=(ptE z).1.length/\(ptD (ptE z).1).2.2.length<=(ptE z).1.length:=C7t (ptE z).1 "."
 have U:(("e":Str).length==0)=false:=by decide+kernel
 have T:((".":Str).length==0)=false:=by decide+kernel
 obtain⟨m,L,p,R⟩:∃m,B9s ((ptD (ptE z).1).1++(ptD (ptE z).1).2.2)=some l/\(if(ptE z).2.1="e" then shR (ptE z).2.2 else some 0)=some m/\v=m-((ptD (ptE z).1).2.2.length:Nat):=by
   unfold plR at c
   cases e:B9s ((ptD (ptE z).1).1++(ptD (ptE z).1).2.2) with
   |none=>rw[e] at c;cases c
   | some F=>
     rw[e] at c
     cases d:(if(ptE z).2.1="e" then shR (ptE z).2.2 else some 0) with
     |none=>rw[d] at c;cases c
     | some t=>
       rw[d] at c
       have q:=bF c
       exact⟨t,by rw[<-(Prod.mk.inj q).1],rfl,(Prod.mk.inj q).2.symm⟩
 have fr:=D6t L
 refine⟨fun a b=>∃q,C9 H b/\b q=some (.tup [.str (ptE z).1,.str (ptE z).2.1,.str (ptE z).2.2])/\a=[si g,sR z,sr q,none,none,none],⟨rfl,z,_,rfl,rfl,U,C6 (by lia),fun q nq=>⟨q,C9.upd nq,A6,rfl⟩⟩,?_⟩
 rintro a H1 ⟨q,o,e,rfl⟩
 refine⟨fun a b=>∃r,C9 H1 b/\b r=some (.tup [.str (ptD (ptE z).1).1,.str (ptD (ptE z).1).2.1,.str (ptD (ptE z).1).2.2])/\a=[si g,sR z,sr q,sr r,none,none],⟨rfl,rfl,SqT.of e,D9 (j:=0) rfl,rfl,_,_,rfl,rfl,T,C6 (by lia),fun r nr=>⟨r,C9.upd nr,A6,rfl⟩⟩,?_⟩
 rintro a H2 ⟨r,s2,d,rfl⟩
 have e:=s2 _ _ e
 refine⟨fun a b=>b=H2/\a=[si g,sR z,sr q,sr r,si l,none],⟨rfl,rfl,SqT.of d,D9 (j:=0) rfl,rfl,rfl,SqT.of d,D9 (j:=2) rfl,_,_,rfl,rfl,C6 (by lia),_,rfl,by rw[aK];lia,.inl ⟨l,L,rfl,rfl⟩⟩,?_⟩
 rintro a H3 ⟨rfl,rfl⟩
 refine⟨fun a b=>C9 H3 b/\a=[si g,sR z,sr q,sr r,si l,si m],?_,?_⟩
 . refine⟨rfl,rfl,SqT.of e,D9 (j:=1) rfl,rfl,rfl,G5 (fun h=>?_) (fun h=>?_)⟩
   . have h:(ptE z).2.1="e":=by injection h
     rw[aC h] at p
     exact⟨rfl,rfl,SqT.of e,D9 (j:=2) rfl,_,rfl,by lia,.inl ⟨m,p,fun b u=>⟨u,rfl⟩⟩⟩
   . have h:¬(ptE z).2.1="e":=fun q=>h (aM V.str q)
     rw[aA h] at p
     obtain rfl:=bF p
     exact⟨C9.refl _,rfl⟩
 rintro a H4 ⟨s,rfl⟩
 have d:=s _ _ d
 refine⟨_,?_,fun _ _ h=>h⟩
 refine⟨rfl,rfl,SqT.of d,D9 (j:=2) rfl,_,rfl,C6 (by lia),_,_,_,rfl,.inl ⟨⟨g,rfl,s0,t⟩,⟨l,rfl,fr.1,fr.2⟩,⟨v,by rw[R],X,W⟩,fun n b nn u x=>?_⟩⟩
 refine k n b ((o.trans (s2.trans s)).free nn) (o.trans (s2.trans (s.trans u))) ?_
 show A5g CN b n (.str "plain") (.int g) (.int l) (.int v)
 rw[R]
 exact x
def sgZ(z:Str):Int:=if A2n z=true then 1 else 0
def G4k(z:Str):0<=sgZ z/\sgZ z<=1:=by unfold sgZ;split<;>decide
abbrev wdZ(z:Str):Str:=Txt.lower (Txt.stripChars z " ")
def rdR(z:Str):Option Nm:=if wdZ z="none" then some ⟨.none,0,0,0⟩ else if bare (wdZ z)="end" then some ⟨.end_,sgZ (wdZ z),0,0⟩ else
 (plR (bare (wdZ z))).bind fun q=>if -200<=q.2/\q.2<=200 then some ⟨.plain,sgZ (wdZ z),q.1,q.2⟩ else none
inductive B8v(CN:Addr)(vs:List V)(H:Hp)(Q:VK)(_:XK):Prop
 |mk(z x)(_:vs=[.str z])(_:z.length<=400)(_:(wdZ z).length<=400)(_:rdR z=some x)(_:∀n a,H n=none ->C9 H a ->J0 CN a n x ->Q (.ref n) a)
def scRead:B9 ["text","word","body"] ["text"] (A5 B7t):=scK
def J4d{f I G F C A CN CB y:Addr}(D:Def K Y "read" ["text"] B7t f fd)(dC:Def K Y "nothing" [] Z2 I u)(dE:sI P w K Y Z 3 I u [] (Y7 CN))(dF:Def K Y "without_sign" ["word"] B1p G t)(X:sI P w K Y Z 1 G t ["word"] B9b)(L:Def K Y "sign_of" ["word"] B1x F s)(J:sI P w K Y Z 1 F s ["word"] B9c)(W:Def K Y "end" ["sign"] B9v C r)(U:sI P w K Y Z 3 C r ["sign"] (B5m K CN y))(R:Def K Y "plain_read" Q45 A7g A p)(N:sI P w K Y Z 4 A p Q45 (B5p CN))(B:Err K Y "NoText" CB)(O:Own Y)(T:Kit K):sI P w K Y Z 5 f fd ["text"] (B8v CN):=by
 refine okZ D.F scRead ?_
 rintro _ _ _ _ H _ Q E j g⟨z,x,rfl,hz,hw,b,k⟩
 refine⟨_,(A2 (C8 (D3 (A2t (V3 (C7g O.isi (pv 0) (pty O.str_ gH)))) (A3 (C8 (A0v (by rfl) B.g B.q PySem.F.excBase_ValueError j.hd g (A0 A9 A1)))) C0)) (A2 (C8 (psz (i:=1) scRead.nd (C9e PySem.F.plainAttrs_str PySem.F.slot_str_lower PySem.F.type_str_lower G1x (A1x PySem.F.plainAttrs_str PySem.F.slot_str_strip PySem.F.type_str_strip C5k (pv 0) (A0 A9 A1))))) (A2 (C8 (D3 (B5 D5 (pv 1) A9 B8) (A3 (A7 (A2m dC dE j g))) C0)) (A2 (C8 (psz (i:=2) scRead.nd (B7 dF X j g (A0 (pv 1) A1)))) (A2 (C8 (D3 (B5 D5 (pv 2) A9 B8) (A3 (A7 (B7 W U j g (A0 (B7 L J j g (A0 (pv 1) A1)) A1)))) C0)) (A3 (A7 (B7 R N j g (A0 (B7 L J j g (A0 (pv 1) A1)) (A0 (pv 2) A1)))))))))),?_⟩
 have l:=G4k (wdZ z)
 have bl:=B2e (wdZ z)
 have sl:=D7r z " "
 unfold rdR at b
 refine⟨fun a c=>c=H/\a=[sR z,none,none],⟨_,_,_,_,true,rfl,rfl,C0m _,T.str_str,rfl,V4 ⟨rfl,rfl⟩⟩,?_⟩
 rintro a H1 ⟨rfl,rfl⟩
 refine⟨fun a c=>c=H1/\a=[sR z,sR (wdZ z),none],⟨rfl,z,_,rfl,rfl,C6 (by lia),rfl,_,rfl,rfl,C6 (show(wdZ z).length<=1000 by lia),rfl,rfl⟩,?_⟩
 rintro a H2 ⟨rfl,rfl⟩
 refine⟨fun a c=>c=H2/\¬wdZ z="none"/\a=[sR z,sR (wdZ z),none],?_,?_⟩
 . refine⟨rfl,rfl,G5 (fun h=>?_) (fun h=>⟨rfl,fun q=>h (aM V.str q),rfl⟩)⟩
   have h:wdZ z="none":=by injection h
   rw[aC h] at b
   obtain rfl:=bF b
   exact⟨rfl,fun n c nn e d=>k n c nn e d⟩
 rintro a H3 ⟨rfl,M,rfl⟩
 rw[aA M] at b
 refine⟨fun a c=>C9 H3 c/\a=[sR z,sR (wdZ z),sR (bare (wdZ z))],⟨_,rfl,by lia,fun c e=>⟨e,rfl⟩⟩,?_⟩
 rintro a H4 ⟨m,rfl⟩
 refine⟨fun a c=>c=H4/\¬bare (wdZ z)="end"/\a=[sR z,sR (wdZ z),sR (bare (wdZ z))],?_,?_⟩
 . refine⟨rfl,rfl,G5 (fun h=>?_) (fun h=>⟨rfl,fun q=>h (aM V.str q),rfl⟩)⟩
   have h:bare (wdZ z)="end":=by injection h
   rw[aC h] at b
   obtain rfl:=bF b
   exact⟨_,rfl,_,rfl,.inl ⟨⟨sgZ (wdZ z),rfl,l.1,l.2⟩,fun n c nn e d=>k n c (m.free nn) (m.trans e) d⟩⟩
 rintro a H5 ⟨rfl,he,rfl⟩
 rw[aA he] at b
 cases v:plR (bare (wdZ z)) with
 |none=>rw[v] at b;cases b
 | some q=>
   rw[v] at b
   have b:(if -200<=q.2/\q.2<=200 then some (⟨.plain,sgZ (wdZ z),q.1,q.2⟩:Nm) else none)=some x:=b
   by_cases o: -200<=q.2/\q.2<=200
   . rw[aC o] at b
     obtain rfl:=bF b
     exact⟨_,rfl,sgZ (wdZ z),bare (wdZ z),q.1,q.2,rfl,l.1,l.2,by lia,v,o.1,o.2,fun n c nn e d=>k n c (m.free nn) (m.trans e) d⟩
   . rw[aA o] at b
     cases b
abbrev A6t:Stmt:=(top 109)
abbrev A9m:Stmt:=(top 110)
abbrev B6s:Stmt:=(top 108)
abbrev A5x:Stmt:=(top 107)
def A5a(l:List Nat)(b:Nat):List Nat:=List.replicate (b+1-l.length) 48++l
def wpL(l:List Nat)(b:Nat):List Nat:=if b=0 then l else(A5a l b).take ((A5a l b).length-b)++46::(A5a l b).drop ((A5a l b).length-b)
def wlL(l:List Nat)(e:Int):List Nat:=l.take 1++(if l.length>1 then 46::l.drop 1 else [])++ [101]++(if e<0 then [45] else [43])++dig e.natAbs
inductive B5q(vs:List V)(H:Hp)(Q:VK)(_:XK):Prop
 |mk(l:List Nat) (b:Nat)(_:vs=[.str (S l),.int (b:Int)])(_:NumText.AllDigits l)(_:l≠ [])(_:l.length<=60)(_:b<=300)(_:Q (.str (S (wpL l b))) H)
def scWithPoint:B9 ["digits","behind","filled","ahead"] Q46 (A5 A6t):=scK
def C2b(D:Def K Y "with_point" Q46 A6t f fd)(O:Own Y):sI P w K Y Z 1 f fd Q46 B5q:=by
 refine okZ D.F scWithPoint ?_
 rintro _ _ _ _ H _ Q E z y⟨l,b,rfl,r,A,B,C,k⟩
 refine⟨_,(A2 (C8 (D3 (B5 D5 (pv 1) A4 B8) (A3 (A7 (pv 0))) C0)) (A2 (C8 (psz (i:=2) scWithPoint.nd (A1x F.plainAttrs_str F.slot_str_zfill F.type_str_zfill B2g (pv 0) (A0 (D0 V8 (pv 1) A4) A1)))) (A2 (C8 (psz (i:=3) scWithPoint.nd (D0 Y4 (G9 A0m (by rfl) O.len_ PySem.boot_len (A0 (pv 2) A1)) (pv 1)))) (A3 (A7 (D0 V1 (D0 V1 (Z8 B0x (pv 2) A0q (A0p (pv 3))) A9) (Z8 B0x (pv 2) (A0p (pv 3)) A0q))))))),fun d g=>g=H/\¬b=0/\d=[sR (S l),si (b:Int),none,none],?_,?_⟩
 . refine⟨rfl,rfl,G5 (fun h=>?_) (fun h=>⟨rfl,fun q=>h (by rw[q];rfl),rfl⟩)⟩
   have h:b=0:=Int.ofNat.inj (V.int.inj h)
   unfold wpL at k
   rw[aC h] at k
   exact k
 rintro d x ⟨rfl,h,rfl⟩
 have t:(A5a l b).length=if b+1<=l.length then l.length else b+1:=by
   unfold A5a
   rw[aG,cZ]
   split<;>lia
 have n:b<=(A5a l b).length/\(A5a l b).length<=400:=by
   rw[t]
   split<;>lia
 have hh:∀c,l.head?=some c ->48<=c:=fun c s=>(r c (List.mem_of_mem_head? s)).1
 have o:Txt.zfill (S l) ((b:Int)+1)=S (A5a l b):=by
   rw[show(b:Int)+1=((b+1:Nat):Int) from rfl]
   exact D3b l (b+1) (fun q=>by have:=hh _ q;lia) (fun q=>by have:=hh _ q;lia)
 have p:PadOk ((b:Int)+1)=true:=by
   unfold PadOk fitsSsize
   rw[cK,iL,iL]
   refine⟨?_,C2k (C6 (by lia))⟩
   rw[Bool.or_eq_false_iff]
   exact⟨aI (by lia),aI (by lia)⟩
 unfold wpL at k
 rw[aA h] at k
 refine⟨fun d g=>g=x/\d=[sR (S l),si (b:Int),sR (S (A5a l b)),none],?_,?_⟩
 . refine⟨rfl,S l,_,rfl,rfl,p,rfl,?_⟩
   rw[<-o]
   rfl
 rintro d v ⟨rfl,rfl⟩
 generalize A5a l b=m at n k
 have u:((S m).length:Int)- (b:Int)=((m.length-b:Nat):Int):=by
   rw[J1]
   lia
 have e:=D9w m (m.length-b) (by lia)
 have t2:=A6e m (m.length-b) (by lia)
 have j:(".":Str).length=1:=by decide+kernel
 refine⟨fun d g=>g=v/\d=[sR (S l),si (b:Int),sR (S m),si ((m.length-b:Nat):Int)],?_,?_⟩
 . refine⟨_,rfl,C6 (by rw[J1];lia),rfl,?_⟩
   rw[<-u]
   rfl
 rintro d G ⟨rfl,rfl⟩
 generalize m.length-b=a at e t2 k
 have k1:(m.take a).length<=400:=bS (List.length_take_le' a m) n.2
 have k2:(m.drop a).length<=400:=by rw[bZ];lia
 refine⟨_,rfl,S m,rfl,by rw[e,J1];exact C6 (by lia),_,_,rfl,rfl,by rw[e,J1,j];exact C6 (by lia),_,rfl,S m,rfl,by rw[t2,J1];exact C6 (by lia),_,_,rfl,rfl,by rw[aK,e,t2,J1,J1,j];exact C6 (by lia),?_⟩
 rw[e,t2,B3r,A0g,A0g,gQ]
 exact k
inductive B8s(vs:List V)(H:Hp)(Q:VK)(_:XK):Prop
 |mk(l:List Nat) (e:Int)(_:vs=[.str (S l),.int e])(_:l≠ [])(_:l.length<=60)(_: -400<=e)(_:e<=400)(_:Q (.str (S (wlL l e))) H)
def scWithLead:B9 ["digits","lead","others","mark"] Q47 (A5 A9m):=scK
def C7m(D:Def K Y "with_lead" Q47 A9m f fd)(O:Own Y):sI P w K Y Z 1 f fd Q47 B8s:=by
 refine okZ D.F scWithLead ?_
 rintro _ _ _ _ H _ Q E I G⟨l,e,rfl,o,J,M,L,k⟩
 refine⟨_,(A2 (C8 (psz (i:=2) scWithLead.nd (G6 (B5 A5n (G9 A0m (by rfl) O.len_ PySem.boot_len (A0 (pv 0) A1)) A4 B8) (D0 V1 A9 (Z8 B0x (pv 0) (A0p A4) A0q)) A9))) (A2 (C8 (psz (i:=3) scWithLead.nd (G6 (B5 B0k (pv 1) A4 B8) A9 A9))) (A3 (A7 (D0 V1 (D0 V1 (D0 V1 (D0 V1 (G7 U0z (pv 0) A4 (fun _ _=>rfl)) (pv 2)) A9) (pv 3)) (U8 Z6 (by rfl) O.str_ gH (A0 (G9 A4x (by rfl) O.abs_ kD (A0 (pv 1) A1)) A1))))))),?_⟩
 have ll:1<=l.length:=by
   cases l with
   |nil=>exact absurd rfl o
   |cons a t=>exact cY (bP _)
 have g:B5v (S l) (some 1) none=S (l.drop 1):=A6e l 1 ll
 have u:(".":Str).length=1:=by decide+kernel
 have F:("e":Str).length=1:=by decide+kernel
 refine⟨fun b m=>m=H/\b=[sR (S l),si e,sR (S (if l.length>1 then 46::l.drop 1 else [])),none],?_,?_⟩
 . refine⟨_,rfl,C6 (by rw[J1];lia),rfl,G5 (fun h=>?_) (fun h=>?_)⟩
   . have h:(1:Int)<((S l).length:Int):=h
     rw[J1] at h
     rw[aC (show l.length>1 by lia)]
     have k2:(l.drop 1).length<=60:=by rw[bZ];lia
     refine⟨_,rfl,S l,rfl,by rw[g,J1];exact C6 (by lia),_,_,rfl,rfl,by rw[g,J1,u];exact C6 (by lia),rfl,?_⟩
     show [sR (S l),si e,sR ((".":Str)++B5v (S l) (some 1) none),none]=_
     rw[g,B3r,A0g]
     rfl
   . have h:¬(1:Int)<((S l).length:Int):=h
     rw[J1] at h
     rw[aA (show¬l.length>1 by lia)]
     exact⟨rfl,by rw[<-G3n];rfl⟩
 rintro b x ⟨rfl,rfl⟩
 refine⟨fun b m=>m=x/\b=[sR (S l),si e,sR (S (if l.length>1 then 46::l.drop 1 else [])),sR (S (if e<0 then [45] else [43]))],?_,?_⟩
 . refine⟨rfl,G5 (fun h=>?_) (fun h=>?_)⟩
   . rw[aC (show e<0 from h)]
     exact⟨rfl,by rw[<-D1q];rfl⟩
   . rw[aA (show¬e<0 from h)]
     exact⟨rfl,by rw[<-J4u];rfl⟩
 rintro b N ⟨rfl,rfl⟩
 unfold wlL at k
 have s:(if l.length>1 then 46::l.drop 1 else []).length<=61:=by
   split
   . rw[bK,bZ]
     lia
   . exact bP _
 have r:(if e<0 then [45] else [43]).length=1:=by split<;>rfl
 generalize (if l.length>1 then 46::l.drop 1 else [])=q at s k
 generalize (if e<0 then [45] else [43])=mk at r k
 obtain⟨c,t,rfl⟩:∃c t,l=c::t:=by
   cases l with
   |nil=>exact absurd rfl o
   |cons c t=>exact⟨c,t,rfl⟩
 have p:(if e<0 then -e else e)=(e.natAbs:Int):=by split<;>lia
 have dl:(dig e.natAbs).length<=4:=A4m (by lia) (by decide)
 have n:Str.ofString (toString (if e<0 then -e else e))=S (dig e.natAbs):=by rw[p,B4n]
 have v:(if e<0 then -e else e).natAbs.log2<1920:=by
   rw[p,eW]
   by_cases z:e.natAbs=0
   . rw[z];decide
   . exact(Nat.log2_lt z).mpr (aQ (show e.natAbs<2^9 by lia) (bH (by decide) (by decide)))
 have d:(⟨#[c]⟩:Str)=S [c]:=rfl
 have C:(S [c]).length=1:=J1 [c]
 have B:=J1 q
 have A:=J1 mk
 have y:=J1 (dig e.natAbs)
 refine⟨S (c::t),0,c,rfl,rfl,C6 (by rw[J1];lia),D9 (j:=0) rfl,_,_,rfl,rfl,?_,_,_,rfl,rfl,?_,_,_,rfl,rfl,?_,e,rfl,_,rfl,v,_,_,rfl,rfl,?_,?_⟩
 . rw[d];exact C6 (by lia)
 . rw[d,aK];exact C6 (by lia)
 . rw[d,aK,aK];exact C6 (by lia)
 . rw[d,aK,aK,aK,n];exact C6 (by lia)
 rw[d,n,litE,A0g,A0g,A0g,A0g]
 exact k
def fgL(x:Nm):List Nat:=dig x.f.toNat
def ldW(x:Nm):Int:=if x.f=0 then x.p else x.p+((fgL x).length:Nat)-1
def wwL(x:Nm):List Nat:=if x.p<=0/\ldW x>= -6 then wpL (fgL x) (-x.p).toNat else wlL (fgL x) (ldW x)
def mkL(x:Nm):List Nat:=if x.s=1 then [45] else []
def C6d:List Nat:=[110,111,110,101]
def G1z:List Nat:=[101,110,100]
def wrL(x:Nm):List Nat:=if x.k= .none then C6d else mkL x++(if x.k= .end_ then G1z else wwL x)
def C3v:("none":Str)=S C6d:=by decide+kernel
def C2m:("end":Str)=S G1z:=by decide+kernel
def D3e{x:Nm}(h:0<=x.f):Str.ofString (toString x.f)=S (fgL x):=by
 unfold fgL
 obtain⟨n,a⟩:=aV h
 rw[a,B4n,iJ]
def C9c{x:Nm}(h:x.Fs):1<=(fgL x).length/\(fgL x).length<=60:=by
 have c:=h.f1
 have d:=h.f0
 have b:((10^60:Nat):Int)=10^60:=by decide+kernel
 refine⟨?_,A4m (by lia) (by decide)⟩
 have:=B0y x.f.toNat
 unfold fgL
 cases e:dig x.f.toNat with
 |nil=>exact absurd e this
 |cons a t=>exact cY (bP _)
def U1f{l:List Nat}{b:Nat}(a:l.length<=60)(c:b<=300):(wpL l b).length<=362:=by
 unfold wpL
 split
 . lia
 have d:(A5a l b).length<=361:=by
   unfold A5a
   rw[aG,cZ]
   lia
 rw[aG,bK,cR,bZ]
 lia
def J9g{l:List Nat}{e:Int}(d:l.length<=60)(h: -400<=e)(g:e<=400):(wlL l e).length<=150:=by
 unfold wlL
 have dl:(dig e.natAbs).length<=4:=A4m (by lia) (by decide)
 have c:(if l.length>1 then 46::l.drop 1 else []).length<=61:=by
   split
   . rw[bK,bZ]
     lia
   . exact bP _
 have a:(if e<0 then [45] else [43]).length=1:=by split<;>rfl
 have b:(l.take 1).length<=1:=List.length_take_le 1 l
 simp only[aG,a]
 show _+_+1+1+_<=150
 lia
def U5v{x:Nm}(h:x.Fs): -400<=ldW x/\ldW x<=400:=by
 have:=C9c h
 have b:=h.p0;have a:=h.p1
 unfold ldW
 split<;>lia
def J9f{x:Nm}(h:x.Fs):(wwL x).length<=362:=by
 have:=C9c h
 have c:=h.p0;have b:=h.p1
 have a:=U5v h
 unfold wwL
 split
 . exact U1f this.2 (by lia)
 exact bS (J9g this.2 a.1 a.2) (by decide)
inductive C8a(CN:Addr)(vs:List V)(H:Hp)(Q:VK)(_:XK):Prop
 |mk(n x)(_:vs=[.ref n])(_:J0 CN H n x)(_:x.Fs)(_:Q (.str (S (wwL x))) H)
def scWorthW:B9 ["number","lead","digits"] ["number"] (A5 B6s):=scK
def D6h{f o y v CN:Addr}(D:Def K Y "worth_written" ["number"] B6s f fd)(J:Def K Y "lead_of" ["number"] C0v o m)(I:sI P w K Y Z 1 o m ["number"] (C4x CN))(G:Def K Y "with_point" Q46 A6t y l)(F:sI P w K Y Z 1 y l Q46 B5q)(C:Def K Y "with_lead" Q47 A9m v j)(B:sI P w K Y Z 1 v j Q47 B8s)(N:Num K Y CN)(O:Own Y):sI P w K Y Z 2 f fd ["number"] (C8a CN):=by
 refine okZ D.F scWorthW ?_
 rintro _ _ _ _ H _ Q E g e⟨n,x,rfl,s,ok,k⟩
 have z:=ok.f0;have o:=ok.f1;have T:=ok.p0;have R:=ok.p1
 have u:=C9c ok
 have r:=U5v ok
 obtain⟨U,c⟩:=id s
 have t:x.f.natAbs<2^300:=by
   have:(10:Int)^60<=2^300:=by decide+kernel
   lia
 have A:x.f.natAbs.log2<1920:=bY (Z3 t (by decide)) (by decide)
 refine⟨_,(A2 (C8 (psz (i:=1) scWorthW.nd (G6 (B5 D5 (C7 (pv 0) rfl) A4 B8) (C7 (pv 0) rfl) (B7 J I g e (A0 (pv 0) A1))))) (A2 (C8 (psz (i:=2) scWorthW.nd (U8 Z6 (by rfl) O.str_ gH (A0 (C7 (pv 0) rfl) A1)))) (A2 (C8 (D3 (PW.pt (A5u (B5 D3k (C7 (pv 0) rfl) A4 B8) (A3p (B5 B1s (pv 1) (A5c A2k A4) B8)))) (A3 (A7 (B7 G F g e (A0 (pv 2) (A0 (A5c A2k (C7 (pv 0) rfl)) A1))))) C0)) (A3 (A7 (B7 C B g e (A0 (pv 2) (A0 (pv 1) A1)))))))),fun a d=>d=H/\a=[sr n,si (ldW x),none],?_,?_⟩
 . refine⟨rfl,c,N.cl,N.n3,A1z,rfl,rfl,G5 (fun h=>?_) (fun h=>?_)⟩
   . have h:x.f=0:=V.int.inj h
     refine⟨rfl,c,N.cl,N.n4,A0y,rfl,?_⟩
     unfold ldW
     rw[aC h]
     rfl
   . have h:¬x.f=0:=fun q=>h (aM V.int q)
     refine⟨n,_,_,x.f,x.p,rfl,s,t,rfl,?_⟩
     unfold ldW
     rw[aA h, <-J1 (fgL x), <-D3e z]
     rfl
 rintro a M ⟨rfl,rfl⟩
 refine⟨fun a d=>d=M/\a=[sr n,si (ldW x),sR (S (fgL x))],?_,?_⟩
 . refine⟨rfl,c,N.cl,N.n3,A1z,_,rfl,A,rfl,?_⟩
   rw[<-D3e z]
   rfl
 rintro a L ⟨rfl,rfl⟩
 unfold wwL at k
 have p:fgL x≠ []:=B0y _
 refine⟨fun a d=>d=L/\¬(x.p<=0/\ldW x>= -6)/\a=[sr n,si (ldW x),sR (S (fgL x))],?_,?_⟩
 . refine⟨rfl,c,N.cl,N.n4,A0y,rfl,G5 (fun h=>?_) (fun h=>⟨rfl,fun q=>h q.1,rfl⟩)⟩
   have h:x.p<=0:=h
   refine⟨rfl,G5 (fun b=>?_) (fun b=>⟨rfl,fun q=>b q.2,rfl⟩)⟩
   have b:ldW x>= -6:=b
   rw[aC ⟨h,b⟩] at k
   refine⟨rfl,c,N.cl,N.n4,A0y,fgL x,(-x.p).toNat,?_,A4n _,p,u.2,by lia,k⟩
   show [V.str (S (fgL x)),V.int (-x.p)]=_
   rw[cC (by lia)]
 rintro a W ⟨rfl,hh,rfl⟩
 rw[aA hh] at k
 exact⟨fgL x,ldW x,rfl,p,u.2,r.1,r.2,k⟩
inductive A6n(K:Frag)(CN CB:Addr)(vs:List V)(H:Hp)(Q:VK)(E:XK):Prop
 |mk(u)(_:vs=[u])(_:(∃n x,u= .ref n/\J0 CN H n x/\W32 x/\Q (.str (S (wrL x))) H)\/(A1k K CN H u/\E (.ref CB) none H))
def scWritten:B9 ["number","mark"] ["number"] (A5 A5x):=scK
def C9h{f s r CN CB:Addr}(D:Def K Y "written" ["number"] A5x f fd)(z:Def K Y "need_number" ["thing"] A3h s g)(y:sI P w K Y Z 1 s g ["thing"] (A2w K CN CB))(v:Def K Y "worth_written" ["number"] B6s r e)(t:sI P w K Y Z 2 r e ["number"] (C8a CN))(N:Num K Y CN):sI P w K Y Z 3 f fd ["number"] (A6n K CN CB):=by
 refine okZ D.F scWritten ?_
 rintro _ _ _ _ H _ Q E m l⟨u,rfl,h⟩
 refine⟨_,(A2 (C8 (J9 (B7 z y m l (A0 (pv 0) A1)))) (A2 (C8 (D3 (B5 D5 (C7 (pv 0) rfl) A9 B8) (A3 (A7 A9)) C0)) (A2 (C8 (psz (i:=1) scWritten.nd (G6 (B5 D5 (C7 (pv 0) rfl) A4 B8) A9 A9))) (A2 (C8 (D3 (B5 D5 (C7 (pv 0) rfl) A9 B8) (A3 (A7 (D0 V1 (pv 1) A9))) C0)) (A3 (A7 (D0 V1 (pv 1) (B7 v t m l (A0 (pv 0) A1))))))))),?_⟩
 rcases h with⟨n,x,rfl,d,ok,k⟩|⟨bad,k⟩
 rotate_left
 . exact⟨fun _ _=>False,⟨_,rfl,.inr ⟨bad,k⟩⟩,fun _ _ h=>h.elim⟩
 obtain⟨I,j⟩:=id d
 unfold wrL at k
 refine⟨fun a c=>c=H/\a=[sr n,none],⟨_,rfl,.inl ⟨n,_,_,_,_,rfl,d,rfl,rfl⟩⟩,?_⟩
 rintro a C ⟨rfl,rfl⟩
 refine⟨fun a c=>c=C/\x.k≠ .none/\a=[sr n,none],?_,?_⟩
 . refine⟨rfl,j,N.cl,N.n1,A1a _ _ _ _,rfl,rfl,G5 (fun h=>?_) (fun h=>⟨rfl,neS (b:= .none) h,rfl⟩)⟩
   rw[aC (eqS (b:= .none) h), <-C3v] at k
   exact k
 rintro a B ⟨rfl,o,rfl⟩
 rw[aA o] at k
 refine⟨fun a c=>c=B/\a=[sr n,sR (S (mkL x))],?_,?_⟩
 . refine⟨rfl,j,N.cl,N.n2,num2 _ _ _ _,rfl,rfl,G5 (fun h=>?_) (fun h=>?_)⟩
   . unfold mkL
     rw[aC (V.int.inj h), <-D1q]
     exact⟨rfl,rfl⟩
   . unfold mkL
     rw[aA (fun q=>h (aM V.int q)), <-G3n]
     exact⟨rfl,rfl⟩
 rintro a A ⟨rfl,rfl⟩
 have G:(S (mkL x)).length<=1:=by
   rw[J1]
   unfold mkL
   split<;>decide
 refine⟨fun a c=>c=A/\x.k≠ .end_/\a=[sr n,sR (S (mkL x))],?_,?_⟩
 . refine⟨rfl,j,N.cl,N.n1,A1a _ _ _ _,rfl,rfl,G5 (fun h=>?_) (fun h=>⟨rfl,neS (b:= .end_) h,rfl⟩)⟩
   rw[aC (eqS (b:= .end_) h), <-A0g, <-C2m] at k
   exact⟨_,_,rfl,rfl,C6 (by
     have:("end":Str).length=3:=by decide+kernel
     lia),k⟩
 rintro a J ⟨rfl,p,rfl⟩
 rw[aA p, <-A0g] at k
 have ok:=ok (C5h o p)
 have F:=J9f ok
 exact⟨n,x,rfl,d,ok,_,_,rfl,rfl,C6 (by rw[J1 (wwL x)];lia),k⟩
abbrev A5e:Stmt:=(top 128)
def A5w(z:Str):Str:=if A2n z=true then B5v z (some 1) none else z
def A5k(z:Str):Option Int:=if A7x (A5w z)=true then(if(A5w z).length>4 then none else some (if A2n z=true then -B1u (A5w z) else B1u (A5w z))) else none
def J3f(z:Str):(A5w z).length<=z.length:=by
 have b:=B2e z
 unfold A5w
 split
 . rename_i h
   unfold bare C0d at b
   unfold A2n at h
   rw[h,Bool.or_true,aC rfl] at b
   exact b
 exact aO _
inductive A9c(CB:Addr)(vs:List V)(H:Hp)(Q:VK)(E:XK):Prop
 |mk(z:Str)(_:vs=[.str z])(_:z.length<=900)(_:(∃n,A5k z=some n/\Q (.int n) H)\/(A5k z=none/\E (.ref CB) none H))
def scCountRead:B9 ["word","digits"] ["word"] (A5 A5e):=scK
def C3w{f u CB:Addr}(D:Def K Y "count_read" ["word"] A5e f fd)(r:Def K Y "are_figures" ["digits"] B2b u t)(B:Err K Y "BadCount" CB)(O:Own Y):sI P w K Y Z 2 f fd ["word"] (A9c CB):=by
 have a:=C0f (P:=P) (w:=w) (Z:=Z) r
 refine okZ D.F scCountRead ?_
 rintro _ _ _ _ H _ Q E l j⟨z,rfl,x,h⟩
 refine⟨_,(A2 (C8 (psz (i:=1) scCountRead.nd (G6 (V3 (A1x PySem.F.plainAttrs_str PySem.F.slot_str_startswith PySem.F.type_str_startswith B3q (pv 0) (A0 A9 A1))) (Z8 B0x (pv 0) (A0p A4) A0q) (pv 0)))) (A2 (C8 (D3 (PW.pt (B0s (A2t (V3 (B7 r a l j (A0 (pv 1) A1)))) (A6u (B5 A5n (G9 A0m (by rfl) O.len_ PySem.boot_len (A0 (pv 1) A1)) A4 B8)))) (A3 (C8 (A0v (by rfl) B.g B.q PySem.F.excBase_ValueError l.hd j (A0 A9 A1)))) C0)) (A3 (A7 (G6 (V3 (A1x PySem.F.plainAttrs_str PySem.F.slot_str_startswith PySem.F.type_str_startswith B3q (pv 0) (A0 A9 A1))) (A5c A2k (U8 Y5 (by rfl) O.int_ gZ (A0 (pv 1) A1))) (U8 Y5 (by rfl) O.int_ gZ (A0 (pv 1) A1))))))),?_⟩
 have v:=J3f z
 refine⟨fun b d=>d=H/\b=[sR z,sR (A5w z)],?_,?_⟩
 . refine⟨rfl,z,_,rfl,rfl,rfl,?_⟩
   cases p:Txt.startswith z "-" with
   | true=>
     have e:A5w z=B5v z (some 1) none:=by unfold A5w A2n;rw[p,aC rfl]
     rw[e] at v ⊢
     exact Y9 ⟨1,rfl,z,rfl,C6 (by lia),rfl,rfl⟩
   | false=>
     have e:A5w z=z:=by unfold A5w A2n;rw[p,aA aB]
     rw[e]
     exact V4 ⟨rfl,rfl⟩
 rintro b s ⟨rfl,rfl⟩
 unfold A5k at h
 have g:(¬A7x (A5w z)=true\/(A5w z).length>4) ->E (.ref CB) none s:=fun q=>by
   rcases h with⟨n,e,_⟩|⟨_,k⟩
   . exfalso
     by_cases c:A7x (A5w z)=true
     . rw[aC c] at e
       rcases q with q|q
       . exact q c
       . rw[aC q] at e;cases e
     . rw[aA c] at e;cases e
   . exact k
 by_cases c:A7x (A5w z)=true
 . by_cases o:(A5w z).length>4
   . exact⟨fun _ _=>False,⟨_,rfl,by lia,rfl,by rw[c];exact V4 ⟨_,rfl,C6 (by lia),rfl,Y8 (show(4:Int)<((A5w z).length:Int) by lia) ⟨fun _ _=>False,⟨C6 (by show 1<=1000;decide),g (.inr o)⟩,fun _ _ h=>h.elim⟩⟩⟩,fun _ _ h=>h.elim⟩
   . refine⟨fun b d=>d=s/\b=[sR z,sR (A5w z)],⟨_,rfl,by lia,rfl,by rw[c];exact V4 ⟨_,rfl,C6 (by lia),rfl,Y0 (show¬(4:Int)<((A5w z).length:Int) by lia) ⟨rfl,rfl⟩⟩⟩,?_⟩
     rintro b y ⟨rfl,rfl⟩
     rw[aC c,aA o] at h
     rcases h with⟨n,e,k⟩|⟨e,_⟩
     . obtain rfl:=bF e
       refine⟨rfl,z,_,rfl,rfl,rfl,?_⟩
       unfold A2n at k
       cases m:Txt.startswith z "-" with
       | true=>
         rw[m,aC rfl] at k
         exact Y9 ⟨_,_,rfl,J4v c (by lia),by lia,k⟩
       | false=>
         rw[m,aA aB] at k
         exact V4 ⟨_,_,rfl,J4v c (by lia),by lia,k⟩
     . cases e
 exact⟨fun _ _=>False,⟨_,rfl,by lia,rfl,by rw[gK.mpr c];exact Y9 ⟨fun _ _=>False,⟨C6 (by show 1<=1000;decide),g (.inl c)⟩,fun _ _ h=>h.elim⟩⟩,fun _ _ h=>h.elim⟩
abbrev B2u:Stmt:=(top 127)
abbrev D4u:Stmt:=(top 130)
def RdT(z:Str)(x:Nm):Prop:=z.length<=400/\(wdZ z).length<=400/\rdR z=some x/\x.Sm
def C7u(CC CT:Addr)(H:Hp)(c:Addr)(v:Cv)(b:Addr)(xs ys:List Str)(Q:VK)(E:XK)(res:Nm×List Str):Prop:=
 (hit ys res.2=none ->∀a' a,C4c CC H c a' ->Exc c H a ->U5 CC a c v a' b (V7 (xs++res.2)) ys ->Q (.str (S (wrL res.1))) a)/\
 (∀z,hit ys res.2=some z ->∀a' d a,C4c CC H c a' ->Exc c H a ->U5 CC a c v a' b (V7 (xs++res.2)) ys ->a d=some (.xd [("signal",.str z)]) ->E (.ref CT) (some d) a)
def C7u.same{CC CT:Addr}(k:C7u CC CT H c v b xs ys Q E res)(s:C9 H h):C7u CC CT h c v b xs ys Q E res:=
 ⟨fun g a' a nw x=>k.1 g a' a (D3v s nw) ((Exc.of s).trans x),fun z e a' d a nw x=>k.2 z e a' d a (D3v s nw) ((Exc.of s).trans x)⟩
def CNT(nm:Str)(v:Cv)(x:Nm)(k:Int):Nm×List Str:=if nm="power" then Fpo v x k else Fsc v x k
def B5t(x y:Nm):Str:=match B3w x y with
 |none=>"none"
 |some o=>if o=0 then "alike" else if o<0 then "less" else "more"
def C7u.ends{CN CC CT CB:Addr}(k:C7u CC CT H c v b xs ys Q E res)(h:W32 res.1):V9 CN CC CT H c v b xs ys res (fun u a=>A6n K CN CB [u] a Q E) E:=
 ⟨fun i m a' a nw x ct e=>⟨_,rfl,.inl ⟨m,res.1,rfl,e,h,k.1 i a' a nw x ct⟩⟩,fun z g a' d a nw x ct j=>k.2 z g a' d a nw x ct j⟩
inductive C1h(CC CT:Addr)(vs:List V)(H:Hp)(Q:VK)(E:XK):Prop
 |mk(c v a b xs ys nm l z y x) (k:Int)(_:vs=[.ref c,.str nm,.ref l])(_:U5 CC H c v a b xs ys)(_:v.Ok)(_:V7 xs=xs)(_:H l=some (.lst [.str z,.str y]))(_:RdT z x)(_:y.length<=900)(_:A5k y=some k)(_:nm="power" -> -20<=k/\k<=20)(_: -100<=k)(_:k<=100)(_:C7u CC CT H c v b xs ys Q E (CNT nm v x k))
def scCounted:B9 ["context","name","rest","number","count"] Q20 (A5 B2u):=scK
def C9f{f U T R CN CB CC CT C4:Addr}(D:Def K Y "counted" Q20 B2u f fd)(dC:Def K Y "read" ["text"] B7t U J)(dE:sI P w K Y Z 5 U J ["text"] (B8v CN))(dF:Def K Y "count_read" ["word"] A5e T I)(dG:sI P w K Y Z 2 T I ["word"] (A9c C4))(SP:Op P w K Y Z "to_power" Q22 B3u (spC CN CC CT 20 Fpo))(SS:Op P w K Y Z "scaled" Q22 A9y (spC CN CC CT 100 Fsc))(X:Def K Y "written" ["number"] A5x R G)(W:sI P w K Y Z 3 R G ["number"] (A6n K CN CB))(O:Own Y):sI P w K Y Z 9 f fd Q20 (C1h CC CT):=by
 refine okZ D.F scCounted ?_
 rintro _ _ _ _ H _ Q E u t⟨c,v,a,b,xs,ys,nm,l,z,y,x,m,rfl,hc,ok,N,M,⟨r1,r2,r3,C⟩,ly,hm,hp,m0,m1,k⟩
 obtain⟨_,_,g,e⟩:=SP
 obtain⟨_,_,p,o⟩:=SS
 refine⟨_,(A2 (C8 (D3 (B5 A5b (G9 A0h (by rfl) O.len_ PySem.boot_len (A0 (pv 2) A1)) A4 B8) (A3 (A7 A9)) C0)) (A2 (C8 (psz (i:=3) scCounted.nd (B7 dC dE u t (A0 (G7 G4 (pv 2) A4 (fun _ _=>rfl)) A1)))) (A2 (C8 (psz (i:=4) scCounted.nd (B7 dF dG u t (A0 (G7 G4 (pv 2) A4 (fun _ _=>rfl)) A1)))) (A2 (C8 (D3 (B5 D5 (pv 1) A9 B8) (A3 (A7 (B7 X W u t (A0 (B7 g e u t (A0 (pv 0) (A0 (pv 3) (A0 (pv 4) A1)))) A1)))) C0)) (A3 (A7 (B7 X W u t (A0 (B7 p o u t (A0 (pv 0) (A0 (pv 3) (A0 (pv 4) A1)))) A1)))))))),fun d s=>s=H/\d=[sr c,sR nm,sr l,none,none],⟨l,_,rfl,.inl (SqL.of M),rfl,rfl,V4 ⟨rfl,rfl⟩⟩,?_⟩
 rintro d H1 ⟨rfl,rfl⟩
 refine⟨fun d s=>∃n,C9 H1 s/\J0 CN s n x/\d=[sr c,sR nm,sr l,sr n,none],⟨rfl,rfl,SqL.of M,D9 (j:=0) rfl,z,x,rfl,r1,r2,r3,fun n s nn s' r=>⟨n,s',r,rfl⟩⟩,?_⟩
 rintro d H2 ⟨n,s2,r,rfl⟩
 have L:=s2 _ _ M
 have B:=hc.same s2
 have k:=k.same s2
 refine⟨fun d s=>s=H2/\d=[sr c,sR nm,sr l,sr n,si m],⟨rfl,rfl,SqL.of L,D9 (j:=1) rfl,y,rfl,ly,.inl ⟨m,hm,rfl,rfl⟩⟩,?_⟩
 rintro d H3 ⟨rfl,rfl⟩
 unfold CNT at k
 by_cases A:nm="power"
 . rw[aC A] at k
   have F:=hp A
   exact⟨fun _ _=>False,⟨rfl,rfl,Y8 (aM V.str A) ⟨c,v,a,b,xs,ys,n,x,m,rfl,B,ok,N,r,C,F.1,F.2,k.ends (U6t ok C F.1 F.2)⟩⟩,fun _ _ h=>h.elim⟩
 rw[aA A] at k
 refine⟨fun d s=>s=H3/\d=[sr c,sR nm,sr l,sr n,si m],⟨rfl,rfl,Y0 (fun q=>A (V.str.inj q)) ⟨rfl,rfl⟩⟩,?_⟩
 rintro d H4 ⟨rfl,rfl⟩
 exact⟨c,v,a,b,xs,ys,n,x,m,rfl,B,ok,N,r,C,m0,m1,k.ends (U5u ok C.ok)⟩
inductive U1u(vs:List V)(H:Hp)(Q:VK)(_:XK):Prop
 |mk(x y)(_:vs=[U6n (B3w x y)])(_:Q (.str (B5t x y)) H)
def U0y:B9 ["order"] ["order"] (A5 D4u):=scK
def J5b(D:Def K Y "order_written" ["order"] D4u f fd):sI P w K Y Z 1 f fd ["order"] U1u:=by
 refine okZ D.F U0y ?_
 rintro _ _ _ _ H _ Q E c b⟨x,y,rfl,k⟩
 refine⟨_,(A2 (D3 (B5 B4k (pv 0) A8d B8) (A3 (A7 A9)) C0) (A2 (D3 (B5 D5 (pv 0) A4 B8) (A3 (A7 A9)) C0) (A3 (A7 (G6 (B5 B0k (pv 0) A4 B8) A9 A9))))),?_⟩
 unfold B5t at k
 cases a:B3w x y with
 | none=>
   rw[a] at k
   exact⟨rfl,rfl,Y8 rfl k⟩
 | some o=>
   rw[a] at k
   dsimp only at k
   refine⟨rfl,rfl,Y0 (fun z=>by cases z) ⟨rfl,rfl,G5 (fun h=>?_) (fun h=>?_)⟩⟩
   . rw[aC (V.int.inj h)] at k
     exact k
   . rw[aA (fun z=>h (aM V.int z))] at k
     refine⟨rfl,G5 (fun h=>?_) (fun h=>?_)⟩
     . rw[aC h] at k
       exact k
     . rw[aA h] at k
       exact k
abbrev D4a:Stmt:=(top 129)
def NUM:List (Str×Int):=[("plus",2),("minus",2),("times",2),("fused",3),("over",2),("whole over",2),("rest",2),("root",1),("same power",2),("to whole",1),("trimmed",1),("next up",1),("next down",1),("lesser",2),("greater",2),("compare",2)]
def RES(nm:Str)(v:Cv):List Nm ->Nm×List Str
 | [x]=>OP1 nm v x
 | [x,y]=>OP2 nm v x y
 | [x,y,z]=>Ffu v x y z
 |_=>(Z5,[])
structure G5n(nm:Str)(nws:List Str)(ps:List (Str×Nm)):Prop where
 w:(nws=[nm]/\(NUM.any fun p=>p.1=nm)=true)\/∃a b,nws=[a,b]/\(NUM.any fun p=>p.1=a)=false/\nm=Txt.join " " [a,b]
 n:G0n NUM nm= .int (ps.length:Int)
 f:nm="fused"↔ps.length=3
 c:nm="compare" ->ps.length=2
 l:1<=ps.length/\ps.length<=3
 r:∀p∈ps,RdT p.1 p.2
def V2q(CC CT:Addr)(H:Hp)(c:Addr)(v:Cv)(b:Addr)(xs ys:List Str)(Q:VK)(E:XK)(nm:Str)(ns:List Nm):Prop:=
 (nm="compare" ->∀x y,ns=[x,y] ->∀a,C9 H a ->Q (.str (B5t x y)) a)/\(nm≠"compare" ->C7u CC CT H c v b xs ys Q E (RES nm v ns))
def B2s(xs:List V)(k:Nat):A3v xs none (some (k:Int))=xs.take k:=by
 unfold A3v
 rw[HT.sIx_none,HT.sIx_nat,List.drop_zero,Nat.sub_zero]
 by_cases h:k<=xs.length
 . rw[Nat.min_eq_left h]
 rw[Nat.min_eq_right (by lia),eV,iP (by lia)]
def A9t(xs:List V)(k:Nat):A3v xs (some (k:Int)) none=xs.drop k:=by
 unfold A3v
 rw[HT.sIx_none,HT.sIx_nat]
 by_cases h:k<=xs.length
 . rw[Nat.min_eq_left h]
   exact iP (by rw[bZ];lia)
 rw[Nat.min_eq_right (by lia),List.drop_length,List.drop_of_length_le (by lia),List.take_nil]
def A8j{xs:List Str}(h:(xs.map (·.length)).sum+xs.length<=900):JoinOk " " xs=true:=by
 unfold JoinOk
 rw[StrLaws.joinTotal,show(" ":Str).length=1 by decide+kernel,Nat.mul_one,C2k (C6 (by lia))]
 rfl
inductive G5h(CC CT:Addr)(vs:List V)(H:Hp)(Q:VK)(E:XK):Prop
 |mk(c v a b xs ys l nm d ps)(_:vs=[.ref c,.ref l])(_:U5 CC H c v a b xs ys)(_:v.Ok)(_:V7 xs=xs)(_:H l=some (.lst ((d++ps.map (·.1)).map V.str)))(_:(d.map (·.length)).sum+d.length<=900)(_:G5n nm d ps)(_:V2q CC CT H c v b xs ys Q E nm (ps.map (·.2)))
def scReck:B9 ["context","words","size","name","numbers"] Q48 (A5 D4a):=scK
def J2v{f f1 f2 f3 f4 f5 f6 CN CC CB yo CT aN:Addr}(D:Def K Y "reckoned" Q48 D4a f fd)(dE:Def K Y "read" ["text"] B7t f1 ym)(dF:sI P w K Y Z 5 f1 ym ["text"] (B8v CN))(dG:Def K Y "of_two" Q38 C2f f2 yk)(dH:sI P w K Y Z 9 f2 yk Q38 (D5p CN CC CT))(dJ:Def K Y "of_one" Q39 C3y f4 yi)(dL:sI P w K Y Z 9 f4 yi Q39 (J7w CN CC CT))(SF:Op P w K Y Z "fused" Q42 B4f (sp3 CN CC CT))(dM:Def K Y "compared" Q3 A3d f5 yh)(dN:sI P w K Y Z 4 f5 yh Q3 (A5j K CN yo))(dC:Def K Y "order_written" ["order"] D4u f6 yp)(dA:Def K Y "written" ["number"] A5x f3 yj)(dB:sI P w K Y Z 3 f3 yj ["number"] (A6n K CN CB))(GD:C7y P w K aN NUM)(NG:Y "NUMBERS_OF"=some (.ref aN))(O:Own Y):sI P w K Y Z 10 f fd Q48 (G5h CC CT):=by
 have t:=J5b (P:=P) (w:=w) (Z:=Z) dC
 refine okZ D.F scReck ?_
 rintro _ _ _ _ H _ Q E M U⟨c,v,a,b,xs,ys,l,nm,s,ps,rfl,hc,ok,ox,el,sw,R,k⟩
 obtain⟨_,_,L,I⟩:=SF
 refine⟨_,(A2 (C8 (psz (i:=2) scReck.nd (G6 (J8e (J9c GD (G7 G4 (pv 1) A4 (fun _ _=>rfl)) (G3q NG))) A4 A4))) (A2 (C8 (psz (i:=3) scReck.nd (A1x PySem.F.plainAttrs_str PySem.F.slot_str_join PySem.F.type_str_join B3f A9 (A0 (Z8 A3n (pv 1) A0q (A0p (pv 2))) A1)))) (A2 (C8 (D3 (B5 A5b (J1p GD (G3q NG) (A0 (pv 3) A1)) (D0 Y4 (G9 A0h (by rfl) O.len_ PySem.boot_len (A0 (pv 1) A1)) (pv 2)) B8) (A3 (A7 A9)) C0)) (A2 (C8 (C0x (i:=4) (N:=["word"]) (F:=[]) (js:=[]) (U1.of0 ⟨rfl,by decide+kernel,by decide+kernel,by decide+kernel,by decide+kernel⟩ (by rfl)) (.inl M.hd) rfl (A7j (Z8 A3n (pv 1) (A0p (pv 2)) A0q)) rfl (fun C s₀ H₀ ex pn h=>A1f (i:=0) (by decide+kernel:(["word"]:List Str).Nodup) rfl (Or.inl rfl)) (fun C s₀ H₀ ex pn h=>(B8d dE dF M (A0 (pv 0) A1))) scReck.nd rfl (Or.inl rfl))) (A2 (C8 (D3 (B5 D5 (pv 3) A9 B8) (A3 (A7 (B7 dC t M U (A0 (B7 dM dN M U (A0 (G7 G4 (pv 4) A4 (fun _ _=>rfl)) (A0 (G7 G4 (pv 4) A4 (fun _ _=>rfl)) A1))) A1)))) C0)) (A2 (C8 (D3 (B5 D5 (pv 3) A9 B8) (A3 (A7 (B7 dA dB M U (A0 (B7 L I M U (A0 (pv 0) (A0 (G7 G4 (pv 4) A4 (fun _ _=>rfl)) (A0 (G7 G4 (pv 4) A4 (fun _ _=>rfl)) (A0 (G7 G4 (pv 4) A4 (fun _ _=>rfl)) A1))))) A1)))) C0)) (A2 (C8 (D3 (B5 D5 (G9 A0h (by rfl) O.len_ PySem.boot_len (A0 (pv 4) A1)) A4 B8) (A3 (A7 (B7 dA dB M U (A0 (B7 dJ dL M U (A0 (pv 0) (A0 (pv 3) (A0 (G7 G4 (pv 4) A4 (fun _ _=>rfl)) A1)))) A1)))) C0)) (A3 (A7 (B7 dA dB M U (A0 (B7 dG dH M U (A0 (pv 0) (A0 (pv 3) (A0 (G7 G4 (pv 4) A4 (fun _ _=>rfl)) (A0 (G7 G4 (pv 4) A4 (fun _ _=>rfl)) A1))))) A1))))))))))),?_⟩
 have ws:∃w0 wr,s=w0::wr/\(NUM.any fun p=>p.1=w0)=decide (s.length=1)/\(s.length=1\/s.length=2)/\Txt.join " " s=nm:=by
   rcases R.w with⟨rfl,h⟩|⟨p,q,rfl,h,rfl⟩
   . exact⟨nm,[],rfl,h,.inl rfl,join_one " " nm⟩
   . exact⟨p,[q],rfl,h,.inr rfl,rfl⟩
 obtain⟨w0,wr,ew,xx,xw,hj⟩:=ws
 have yn:atI ((s++ps.map (·.1)).map V.str) 0=some (.str w0):=by rw[ew];exact D9 (j:=0) rfl
 refine⟨fun d A=>A=H/\d=[sr c,sr l,si (s.length:Int),none,none],?_,?_⟩
 . refine⟨rfl,rfl,SqL.of el,yn,w0,rfl,rfl,rfl,?_⟩
   rw[xx]
   refine G5 (fun h=>?_) (fun h=>?_)
   . rw[h]
     exact⟨rfl,rfl⟩
   . rw[xw.resolve_left h]
     exact⟨rfl,rfl⟩
 rintro d H1 ⟨rfl,rfl⟩
 refine⟨fun d A=>C9 H1 A/\d=[sr c,sr l,si (s.length:Int),sR nm,none],?_,?_⟩
 . refine⟨rfl,_,rfl,l,_,rfl,SqL.of el,fun p np=>?_⟩
   rw[B2s, <-List.map_take,List.take_left]
   refine⟨_,p,s,rfl,rfl,SqL.of A6,A8j sw,?_⟩
   rw[hj]
   exact⟨C9.upd np,rfl⟩
 rintro d H2 ⟨s2,rfl⟩
 have xu:=s2 _ _ el
 refine⟨fun d A=>A=H2/\d=[sr c,sr l,si (s.length:Int),sR nm,none],?_,?_⟩
 . refine⟨rfl,nm,rfl,l,_,rfl,.inl (SqL.of xu),by rw[R.n];rfl,rfl,?_⟩
   rw[R.n,aP,aG,aP,aT (show V.int (ps.length:Int)=V.int (((s.length+ps.length:Nat):Int)- (s.length:Int)) by congr 1;lia)]
   exact V4 ⟨rfl,rfl⟩
 rintro d H3 ⟨rfl,rfl⟩
 refine⟨fun d A=>∃(D:Addr) (as:List Addr),C9 H3 A/\A D=some (.lst (as.map V.ref))/\as.length=ps.length/\(∀(i:Nat) (n:Addr) (p:Str×Nm),as[i]?=some n ->ps[i]?=some p ->J0 CN A n p.2)/\d=[sr c,sr l,si (s.length:Int),sR nm,sr D],?_,?_⟩
 . refine⟨_,rfl,l,_,rfl,SqL.of xu,fun p np=>?_⟩
   rw[A9t, <-List.map_drop,List.drop_left]
   have u:=C9.upd (o:= .lst ((ps.map (·.1)).map V.str)) np
   have ep:upd H3 p (.lst ((ps.map (·.1)).map V.str)) p=some (.lst ((ps.map (·.1)).map V.str)):=A6
   refine⟨p,rfl,⟨_,SqL.of A6⟩,B4m (J:=Itl K p) (n:=ps.length) (fun i y A=>∃n q,y= .ref n/\ps[i]?=some q/\J0 CN A n q.2) (by have:=R.l;lia) (fun i y H1 H2 D l h hD e=>?_) (fun i H5 Qy G sm hy=>⟨⟨_,V.str ps[i].1,SqL.of (sm _ _ ep),by simp[G]⟩,fun x H6 yl=>?_⟩) (fun H5 sm=>⟨_,SqL.of (sm _ _ ep),by simp⟩) (fun D H5 ys s5 nD eD ly hR=>?_)⟩
   . obtain⟨n,q,e1,X,e3⟩:=h
     exact⟨n,q,e1,X,e3.exc hD e⟩
   . obtain⟨rfl,yl⟩:=yl
     have ex:x=V.str ps[i].1:=by
       have:=yl _ (SqL.of (sm _ _ ep))
       simp[G] at this
       exact this.symm
     subst ex
     obtain⟨r1,r2,r3,_⟩:=R.r ps[i] (kC G)
     exact⟨ps[i].1,ps[i].2,rfl,r1,r2,r3,fun n A nn s' xv=>hy _ _ s' ⟨n,ps[i],rfl,aY G,xv⟩⟩
   . have B:∀i:Nat,∃n,i<ps.length ->ys[i]?=some (.ref n)/\∃q,ps[i]?=some q/\J0 CN H5 n q.2:=fun i=>by
       by_cases G:i<ps.length
       . obtain⟨n,q,e1,X,e3⟩:=hR i ys[i] (aY (by lia))
         exact⟨n,fun _=>⟨by rw[aY (by lia),e1],q,X,e3⟩⟩
       . exact⟨0,fun h=>absurd h G⟩
     obtain⟨g,hg⟩:=Classical.axiomOfChoice B
     have ey:ys=((List.range ps.length).map g).map V.ref:=iO fun i=>by
       by_cases G:i<ps.length
       . rw[(hg i G).1]
         simp[G]
       . rw[cS (by lia),cS (by simp;lia)]
     refine⟨D,(List.range ps.length).map g,u.trans s5,by rw[eD,ey],by simp,fun i n p B hp=>?_,rfl⟩
     have G:i<ps.length:=(bQ.mp hp).1
     obtain⟨q,X,e3⟩:=(hg i G).2
     simp[G] at B
     rw[hp] at X
     rw[<-B,bF X]
     exact e3
 rintro d H4 ⟨D,as,s4,eD,la,B,rfl⟩
 have sH:=s2.trans s4
 have W:=hc.same sH
 have lp:=R.l
 have L1:((as.map V.ref).length:Int)=(ps.length:Int):=by rw[aP,la]
 refine⟨fun d A=>A=H4/\nm≠"compare"/\d=[sr c,sr l,si (s.length:Int),sR nm,sr D],?_,?_⟩
 . refine⟨rfl,rfl,G5 (fun h=>?_) (fun h=>⟨rfl,fun z=>h (aM V.str z),rfl⟩)⟩
   have h:=V.str.inj h
   have l2:=R.c h
   obtain⟨p,q,rfl⟩:=ll2 l2
   obtain⟨n,m,rfl⟩:=ll2 la
   refine⟨rfl,rfl,SqL.of eD,D9 (j:=0) rfl,rfl,rfl,SqL.of eD,D9 (j:=1) rfl,_,_,rfl,.inl ⟨n,m,p.2,q.2,rfl,rfl,B 0 n p rfl rfl,B 1 m q rfl rfl,(R.r p aH).2.2.2.ok,(R.r q (aJ _ aH)).2.2.2.ok,fun A s'=>⟨p.2,q.2,rfl,k.1 h _ _ rfl _ (sH.trans s')⟩⟩⟩
 rintro d H5 ⟨rfl,xz,rfl⟩
 have k:=(k.2 xz).same sH
 refine⟨fun d A=>A=H5/\nm≠"fused"/\d=[sr c,sr l,si (s.length:Int),sR nm,sr D],?_,?_⟩
 . refine⟨rfl,rfl,G5 (fun h=>?_) (fun h=>⟨rfl,fun z=>h (aM V.str z),rfl⟩)⟩
   have l3:=R.f.mp (V.str.inj h)
   obtain⟨p,q,r,rfl⟩:=ll3 l3
   obtain⟨n,m,o,rfl⟩:=ll3 la
   have T:=(R.r p aH).2.2.2
   have s2:=(R.r q (aJ _ aH)).2.2.2
   have s3:=(R.r r (aJ _ (aJ _ aH))).2.2.2
   exact⟨rfl,rfl,SqL.of eD,D9 (j:=0) rfl,rfl,rfl,SqL.of eD,D9 (j:=1) rfl,rfl,rfl,SqL.of eD,D9 (j:=2) rfl,c,v,a,b,xs,ys,n,m,o,p.2,q.2,r.2,rfl,W,ok,ox,⟨B 0 n p rfl rfl,B 1 m q rfl rfl⟩,B 2 o r rfl rfl,T,s2,s3,k.ends (U7d ok T.ok s2.ok s3.ok)⟩
 rintro d H6 ⟨rfl,xy,rfl⟩
 have l3:ps.length≠3:=fun z=>xy (R.f.mpr z)
 refine⟨fun d A=>A=H6/\ps.length=2/\d=[sr c,sr l,si (s.length:Int),sR nm,sr D],?_,?_⟩
 . refine⟨D,_,rfl,.inl (SqL.of eD),rfl,rfl,G5 (fun h=>?_) (fun h=>⟨rfl,?_,rfl⟩)⟩
   . have l1:ps.length=1:=by have:=V.int.inj h;lia
     obtain⟨p,rfl⟩:=ll1 l1
     obtain⟨n,rfl⟩:=ll1 la
     have T:=(R.r p aH).2.2.2
     exact⟨rfl,rfl,SqL.of eD,D9 (j:=0) rfl,c,v,a,b,xs,ys,nm,n,p.2,rfl,W,ok,ox,B 0 n p rfl rfl,T,k.ends (J7n ok T)⟩
   . have:ps.length≠1:=fun z=>h (by rw[L1,z];rfl)
     lia
 rintro d H7 ⟨rfl,l2,rfl⟩
 obtain⟨p,q,rfl⟩:=ll2 l2
 obtain⟨n,m,rfl⟩:=ll2 la
 have T:=(R.r p aH).2.2.2
 have s2:=(R.r q (aJ _ aH)).2.2.2
 exact⟨rfl,rfl,SqL.of eD,D9 (j:=0) rfl,rfl,rfl,SqL.of eD,D9 (j:=1) rfl,c,v,a,b,xs,ys,nm,n,m,p.2,q.2,rfl,W,ok,ox,⟨B 0 n p rfl rfl,B 1 m q rfl rfl⟩,T,s2,k.ends (J7k ok T.ok s2.ok)⟩
def rdS(zs:List Str):PyData:= .list (zs.map PyData.str)
def OkL(zs:List Str):Prop:=zs.length<=100/\∀z∈zs,PyData.strOk z=true
def U7k:∀{zs:List Str},(∀z∈zs,PyData.strOk z=true) ->PyData.canLayAll0 (zs.map PyData.str)=true/\PyData.depthAll (zs.map PyData.str)<=1
 | [],_=>by simp[PyData.canLayAll0,PyData.depthAll]
 | z ::zs,h=>by
   obtain⟨a,b⟩:=U7k (zs:=zs) fun d h'=>h d (aJ _ h')
   have c:=h z aH
   constructor
   . simp[PyData.canLayAll0,PyData.canLay0,c,a]
   . simp only[cX,PyData.depthAll,PyData.depth]
     lia
def shS(h:OkL zs):SeqAt.shaped (rdS zs)=true:=by
 obtain⟨a,b⟩:=U7k h.2
 unfold SeqAt.shaped rdS
 simp only[PyData.canLay0,PyData.depth,a,Bool.and_true,cK,decide_eq_true_eq,aP]
 exact⟨trivial,aT (by lia)⟩
def D9h:∀zs:List Str,PyData.eqv (rdS zs) (rdS zs)=true:=by
 have h:∀zs:List Str,PyData.eqvAll (zs.map PyData.str) (zs.map PyData.str)=true:=fun zs=>by
   induction zs with
   |nil=>simp[PyData.eqvAll]
   |cons z zs a=>simp[PyData.eqvAll,PyData.eqv,a]
 intro zs
 simp[rdS,PyData.eqv,h]
def U8m{K:Frag}:∀zs:List Str,B9e K H (zs.map V.str) (zs.map PyData.str)
 | []=> .nil
 |z::zs=> .cons (.str z) (U8m zs)
def A4a{K:Frag}{H:Hp}{zs:List Str}(h:H p=some (.lst (zs.map V.str))):RdD K H (.ref p) (rdS zs):= .lst (SqL.of h) (U8m zs)
def U7g:∀z∈A1d,PyData.strOk z=true:=by decide+kernel
abbrev D2s:Stmt:=(top 126)
def NwL(H:Hp)(a b a' b':Addr):Prop:=∀z,H z≠none ->a≠z ->b≠z ->a'≠z/\b'≠z
def NwL.refl(H:Hp)(a b:Addr):NwL H a b a b:=fun _ _ d c=>⟨d,c⟩
def C0e{H:Hp}(a:H z≠none)(n:H q=none):q≠z:=fun e=>a (e▸n)
def NwL.a{H:Hp}{a b a':Addr}(n:H a'=none):NwL H a b a' b:=fun z c _ d=>⟨C0e c n,d⟩
def NwL.b{H:Hp}{a b b':Addr}(n:H b'=none):NwL H a b a b':=fun z c d _=>⟨d,C0e c n⟩
def D0f(nm:Str)(ws xs ys:List Str):Option (Str×List Str×List Str):=
 if nm="trap" then(if ws.all A1d.contains=true then some ("done",xs,V7 ws) else none)
 else if ws≠ [] then some ("no line",xs,ys)
 else if nm="clear" then some ("done",[],ys)
 else some (if xs=[] then "none up" else Txt.join " " xs,xs,ys)
def V3v(CC CB:Addr)(H:Hp)(c:Addr)(v:Cv)(a b:Addr)(Q:VK)(E:XK):Option (Str×List Str×List Str) ->Prop
 |some q=>∀a' b' d,Exc c H d ->U5 CC d c v a' b' q.2.1 q.2.2 ->NwL H a b a' b' ->Q (.str q.1) d
 |none=>∀d,C9 H d ->E (.ref CB) none d
def D4k:PyData.eqv (rdS zs) (rdS [])=decide (zs=[]):=by
 cases zs with
 |nil=>exact D9h []
 |cons z zs=>rw[aI (fun q=>nomatch q)];simp[rdS,PyData.eqv,PyData.eqvAll]
def J7p:OkL []:=⟨by decide,fun z a=>nomatch a⟩
def C0w:∀{ws:List Str},¬ws.all A1d.contains=true ->∃zs x r,ws=zs++x::r/\(∀z∈zs,z∈A1d)/\x ∉ A1d
 | [],h=>absurd rfl h
 | w ::ws,h=>by
   by_cases b:w∈A1d
   . obtain⟨zs,x,r,e,d,c⟩:=C0w (ws:=ws) fun q=>h (by rw[List.all_cons,q,Bool.and_true];simpa using b)
     exact⟨w::zs,x,r,by rw[e];rfl,fun z a=>(bM.mp a).elim (fun q=>q▸b) (d z),c⟩
   . exact⟨[],w,ws,rfl,(fun z a=>nomatch a),b⟩
inductive G5e(CC CB:Addr)(vs:List V)(H:Hp)(Q:VK)(E:XK):Prop
 |mk(c v a b xs ys nm l ws)(_:vs=[.ref c,.str nm,.ref l])(_:U5 CC H c v a b xs ys)(_:H l=some (.lst (ws.map V.str)))(_:OkL ws)(_:OkL xs)(_:(xs.map (·.length)).sum+xs.length<=900)(_:V3v CC CB H c v a b Q E (D0f nm ws xs ys))
def scSigH:B9 ["context","name","rest","names"] Q20 (A5 D2s):=scK
def J2q{f CC CB:Addr}(D:Def K Y "signals_handled" Q20 D2s f fd)(C:B3p K Y CC)(MF:Has P w K Y Z CC "flags" 1 ["self"] (A3j CC))(ME:Has P w K Y Z CC "clear" 1 ["self"] (A7n CC))(MT:Has P w K Y Z CC "trap" 2 Q25 (B4u K CC CB))(T:Kit K):sI P w K Y Z 3 f fd Q20 (G5e CC CB):=by
 refine okZ D.F scSigH ?_
 rintro _ _ _ _ H _ Q E n J⟨c,v,a,b,xs,ys,nm,l,ws,rfl,m,N,F,B,jl,k⟩
 obtain⟨ff,xv,mf,gf,bf⟩:=MF
 obtain⟨fe,xw,me,ge,be⟩:=ME
 obtain⟨ft,xu,mt,gt,bt⟩:=MT
 have hu:=n.units
 have O:0<=sizeLine:=bP _
 refine⟨_,(A2 (C8 (D3 (B5 D5 (pv 1) A9 B8) (A2 (C8 (J9 (A2z (pv 0) C.cl mt gt n bt .nil J (A0 (pv 2) A1)))) (A3 (A7 A9))) C0)) (A2 (C8 (D3 (B5 (C9x n.units) (pv 2) (G8 A1) B8) (A3 (A7 A9)) C0)) (A2 (C8 (D3 (B5 D5 (pv 1) A9 B8) (A2 (C8 (J9 (Y6 (pv 0) C.cl me ge n be .nil J))) (A3 (A7 A9))) C0)) (A2 (C8 (psz (i:=3) scSigH.nd (Y6 (pv 0) C.cl mf gf n bf .nil J))) (A3 (A7 (G6 (B5 (C8y n.units) (pv 3) (G8 A1) B8) A9 (A1x PySem.F.plainAttrs_str PySem.F.slot_str_join PySem.F.type_str_join B3f A9 (A0 (pv 3) A1))))))))),?_⟩
 obtain⟨dx,A⟩:=m.ins
 unfold D0f at k
 refine⟨fun d g=>g=H/\¬nm="trap"/\d=[sr c,sR nm,sr l,none],?_,?_⟩
 . refine⟨rfl,rfl,G5 (fun h=>?_) (fun h=>⟨rfl,fun q=>h (aM V.str q),rfl⟩)⟩
   have h:nm="trap":=V.str.inj h
   rw[aC h] at k
   by_cases y:ws.all A1d.contains=true
   . rw[aC y] at k
     refine⟨fun d g=>∃b',Exc c H g/\U5 CC g c v a b' xs (V7 ws)/\NwL H a b a b',⟨rfl,A,A3t,c,v.r,v.y,v.l,v.m,a,b,_,_,_,rfl,m,.inl ⟨l,ws,rfl,N,fun z hz=>?_,fun b' g x nb ct=>⟨b',x,ct,NwL.b nb⟩⟩⟩,?_⟩
     . have:=kF.mp y z hz
       simpa using this
     rintro d g ⟨b',x,ct,nw⟩
     exact k a b' g x ct nw
   . rw[aA y] at k
     obtain⟨zs,x,r,e,h1,h2⟩:=C0w y
     refine⟨fun _ _=>False,⟨rfl,A,A3t,c,v.r,v.y,v.l,v.m,a,b,_,_,_,rfl,m,.inr ⟨.inr ⟨l,zs,.str x,r.map V.str,rfl,?_,h1,_,_,C0m _,T.str_str,.inr ⟨x,rfl,h2⟩⟩,k H (C9.refl _)⟩⟩,fun _ _ h=>h.elim⟩
     rw[N,e,cL]
     rfl
 rintro d W ⟨rfl,L,rfl⟩
 rw[aA L] at k
 refine⟨fun d g=>C9 W g/\ws=[]/\d=[sr c,sR nm,sr l,none],?_,?_⟩
 . refine⟨O,fun p G=>?_⟩
   have u:=C9.upd (o:= .lst []) G
   refine⟨rdS ws,rdS [],A4a (u _ _ N),A4a (zs:=[]) A6,shS F,shS J7p,rfl,?_⟩
   rw[aC rfl,D4k]
   by_cases t:ws=[]
   . rw[aT t]
     exact V4 ⟨u,t,rfl⟩
   . rw[aI t]
     rw[aC t] at k
     exact Y9 (k a b _ (Exc.of u) (m.same u) (NwL.refl _ _ _))
 rintro d U ⟨s2,rfl,rfl⟩
 rw[aA (fun q=>q rfl)] at k
 refine⟨fun d g=>g=U/\¬nm="clear"/\d=[sr c,sR nm,sr l,none],?_,?_⟩
 . refine⟨rfl,rfl,G5 (fun h=>?_) (fun h=>⟨rfl,fun q=>h (aM V.str q),rfl⟩)⟩
   have h:nm="clear":=V.str.inj h
   rw[aC h] at k
   refine⟨fun d g=>∃a',W a'=none/\Exc c U g/\U5 CC g c v a' b [] ys,⟨rfl,s2 _ _ A,B2a _ _ _ _ _ _,c,v.r,v.y,v.l,v.m,a,b,_,_,rfl,m.same s2,fun a' g x I ct=>⟨a',s2.free I,x,ct⟩⟩,?_⟩
   rintro d g ⟨a',I,x,ct⟩
   exact k a' b g ((Exc.of s2).trans x) ct (NwL.a I)
 rintro d H3 ⟨rfl,M,rfl⟩
 rw[aA M] at k
 refine⟨fun d g=>∃p,C9 H3 g/\g p=some (.lst (xs.map V.str))/\d=[sr c,sR nm,sr l,sr p],⟨rfl,s2 _ _ A,A4j,c,v.r,v.y,v.l,v.m,a,b,_,_,rfl,m.same s2,fun p G=>⟨p,C9.upd G,A6,rfl⟩⟩,?_⟩
 rintro d H4 ⟨p,X,R,rfl⟩
 refine⟨O,fun q nq=>?_⟩
 have u:=C9.upd (o:= .lst []) nq
 refine⟨rdS xs,rdS [],A4a (u _ _ R),A4a (zs:=[]) A6,shS B,shS J7p,rfl,?_⟩
 have s:=s2.trans (X.trans u)
 rw[aA aB,D4k]
 by_cases j:xs=[]
 . rw[aT j]
   rw[aC j] at k
   exact Y9 (k a b _ (Exc.of s) (m.same s) (NwL.refl _ _ _))
 rw[aI j]
 rw[aA j] at k
 exact V4 ⟨rfl,_,p,xs,rfl,rfl,SqL.of (u _ _ R),A8j jl,k a b _ (Exc.of s) (m.same s) (NwL.refl _ _ _)⟩
abbrev C3h:Stmt:=(top 125)
deriving instance DecidableEq for Wy
inductive Chg where
 |noline|nocount|bad|ok (v:Cv)
def wys:List Wy:=[.down,.up,.floor,.ceiling,.halfUp,.halfDown,.halfEven,.fiveUp]
def J5n(y:Wy):y∈wys:=by cases y<;>simp[wys]
def A3u(z:Str):Option Wy:=wys.find? fun y=>y.name=z
def G3v{y:Wy}(h:A3u z=some y):z=y.name:=by
 have:=List.find?_some h
 exact(fM this).symm
def G0e(h:A3u z=none):∀y:Wy,z≠y.name:=fun y e=>by
 have:=jR.mp h y (J5n y)
 exact this (aT e.symm)
def B1w(y:Wy):A3u y.name=some y:=by cases y<;>decide+kernel
def mkC(r:Int)(y:Option Wy)(l m:Int):Chg:=match y with
 |none=> .bad
 |some y=>if(1<=r/\r<=24)/\(-60<=l/\l<=0)/\0<=m/\m<=60 then .ok ⟨r,y,l,m⟩ else .bad
def A4v(v:Cv)(nm:Str)(ws:List Str):Chg:=
 if nm="room"/\ws.length=1 then(match A5k (ws.getD 0 "") with|none=> .nocount|some n=>mkC n (some v.y) v.l v.m)
 else if nm="way"/\(ws.length=1\/ws.length=2) then mkC v.r (A3u (Txt.join " " ws)) v.l v.m
 else if nm="bounds"/\ws.length=2 then(match A5k (ws.getD 0 "") with|none=> .nocount|some a=>match A5k (ws.getD 1 "") with|none=> .nocount|some b=>mkC v.r (some v.y) a b)
 else .noline
def MkP(CC CB:Addr)(H:Hp)(x:Addr)(Q:Hp ->Prop)(E:XK):Chg ->Prop
 | .ok v=>∀a b c,C9 H c ->H a=none ->H b=none ->U5 CC c x v a b [] [] ->Q c
 |_=>∀c,C9 H c ->E (.ref CB) none c
def C4f{K:Frag}{CC CB x i:Addr}{H:Hp}{Q:Hp ->Prop}{r l m:Int}(T:Kit K)(n:H x=none)(j:H i=none)(p:i≠x)(h:MkP CC CB H x Q E (mkC r (A3u z) l m)):
   B0d K CC CB (.ref x::([.int r,.str z,.int l,.int m]++ [])) (upd (upd H i (.own x)) x (.ins CC i [])) (fun v I=>v= .non/\Q I) E:=by
 cases s:A3u z with
 | none=>
   rw[s] at h
   have h:∀d,C9 H d ->E (.ref CB) none d:=h
   have nw:=G0e s
   by_cases o:1<=r/\r<=24
   . exact G1y n j p (.inr ⟨⟨r,rfl,o.1,o.2⟩,.inl fun d _=>⟨_,_,C0m _,T.str_str,.inr ⟨z,rfl,nw⟩⟩⟩) h
   . exact G1y n j p (.inl fun d _=>B6f T (by lia)) h
 | some y=>
   rw[s] at h
   have u:=G3v s
   unfold mkC at h
   dsimp only at h
   by_cases g:(1<=r/\r<=24)/\(-60<=l/\l<=0)/\0<=m/\m<=60
   . rw[aC g] at h
     refine⟨x,i,_,_,_,_,rfl,A6,.inl ⟨r,y,l,m,rfl,g.1.1,g.1.2,by rw[u],.inr ⟨rfl,g.2.1.1,g.2.1.2⟩,rfl,g.2.2.1,g.2.2.2,fun a b G e F D c=>⟨rfl,?_⟩⟩⟩
     have free:∀q,upd (upd H i (.own x)) x (.ins CC i []) q=none ->H q=none:=fun q t=>by
       by_cases B:q=x
       . rw[B];exact n
       . rw[D8 B] at t
         by_cases A:q=i
         . rw[A];exact j
         . rw[D8 A] at t;exact t
     exact h a b G (A9q n j p e) (free a F) (free b D) c
   . rw[aA g] at h
     have h:∀d,C9 H d ->E (.ref CB) none d:=h
     by_cases o:1<=r/\r<=24
     . by_cases C: -60<=l/\l<=0
       . exact G1y n j p (.inr ⟨⟨r,rfl,o.1,o.2⟩,.inr ⟨⟨y,by rw[u]⟩,.inr ⟨⟨l,.inr ⟨rfl,C.1,C.2⟩⟩,fun d _=>B6f T (by lia)⟩⟩⟩) h
       . exact G1y n j p (.inr ⟨⟨r,rfl,o.1,o.2⟩,.inr ⟨⟨y,by rw[u]⟩,.inl ⟨(fun q=>nomatch q),fun d _=>B6f T (by lia)⟩⟩⟩) h
     . exact G1y n j p (.inl fun d _=>B6f T (by lia)) h
def A3q(h:V7 xs=xs):∀z∈xs,z∈A1d:=fun z a=>by
 rw[<-h] at a
 exact(jH.mp a).1
def J9v(h:V7 xs=xs):OkL xs:=⟨by have:=B2j h;lia,fun z a=>U7g z (A3q h z a)⟩
def D4m{xs:List Str}(h:V7 xs=xs):(xs.map (·.length)).sum+xs.length<=900:=by
 have a:∀z∈A1d,z.length<=5:=by decide+kernel
 have b:∀l:List Str,(∀z∈l,z.length<=5) ->(l.map (·.length)).sum<=5*l.length:=by
   intro l
   induction l with
   |nil=>intro _;exact aO _
   | cons z l e=>
     intro d
     have:=e fun z c=>d z (aJ _ c)
     have:=d z aH
     simp only[cX,jD,bK]
     lia
 have:=b xs fun z c=>a z (A3q h z c)
 have:=B2j h
 lia
structure C7v(K:Frag)(mg:Str ->Option Value)(CD:Addr):Prop where
 g:mg "Desk"=some (.ref CD)
 cl:Cls K CD
 n:A0e K CD "context"
def A4d(b:Addr)(H:Hp)(d c:Addr):Prop:=∃a,H d=some (.ins b a [("context",.ref c)])
def V2p(e CC h g:Addr)(H:Hp)(d:Addr)(xs ys:List Str)(Q:VK)(E:XK):Chg ->Prop
 | .noline=>∀a,C9 H a ->Q (.str "no line") a
 | .nocount=>∀a,C9 H a ->E (.ref g) none a
 | .bad=>∀a,C9 H a ->E (.ref h) none a
 | .ok c=>∀b a' b' a,Exc d H a ->H b=none ->H a'=none ->H b'=none ->A4d e a d b ->U5 CC a b c a' b' xs ys ->Q (.str "done") a
inductive D5n(e CC h g:Addr)(vs:List V)(H:Hp)(Q:VK)(E:XK):Prop
 |mk(d c v a b xs ys nm l ws)(_:vs=[.ref d,.str nm,.ref l])(_:A4d e H d c)(_:U5 CC H c v a b xs ys)(_:V7 xs=xs)(_:V7 ys=ys)(_:H l=some (.lst (ws.map V.str)))(_:ws.length<=100)(_:(ws.map (·.length)).sum+ws.length<=900)(_:V2p e CC h g H d xs ys Q E (A4v v nm ws))
def scCtxCh:B9 ["desk","name","rest","old","rule","changed"] Q49 (A5 C3h):=scK
abbrev st6(d:Addr)(nm:Str)(l:Addr)(x3 x4 x5:Option V):L2.St:=[sr d,sR nm,sr l,x3,x4,x5]
def C2h{ws:List Str}{i:Nat}{z:Str}(h:ws[i]?=some z):z.length<=(ws.map (·.length)).sum:=by
 induction ws generalizing i with
 |nil=>simp at h
 | cons y r a=>
   simp only[cX,jD]
   cases i with
   | zero => have:y=z:=by simpa using h
             subst this;lia
   |succ i=>have:=a (i:=i) (by simpa using h);lia
def G0y{f f1 fI CD CC C3 C4 CT CW:Addr}{cw:Wy ->Addr}{fd yk yj:FuncData}(D:Def K Y "context_changed" Q49 C3h f fd)(dA:Def K Y "count_read" ["word"] A5e f1 yk)(dB:sI P w K Y Z 2 f1 yk ["word"] (A9c C4))(DC:C7v K Y CD)(CM:A3k P w K Y Z CC C3 CT CW cw)(WN:∀y:Wy,D9m P w K Y Z (cw y) y.name)(MC:D5d P w K Y Z CC C3 fI yj)(B4:L2.Binds K yj Q35 [])(MF:Has P w K Y Z CC "flags" 1 ["self"] (A3j CC))(MT:Has P w K Y Z CC "trap" 2 Q25 (B4u K CC C3))(yy:Has P w K Y Z CC "traps" 1 ["self"] (A7r CC))(T:Kit K)(O:Own Y):sI P w K Y Z 5 f fd Q49 (D5n CD CC C3 C4):=by
 refine okZ D.F scCtxCh ?_
 rintro _ _ _ _ H _ Q E J I⟨d,c,v,a,b,xs,ys,nm,l,ws,rfl,⟨dd,ed⟩,hc,ox,oy,el,lw,sw,k⟩
 have C:=CM.c
 obtain⟨W,ze,mf,gf,bf⟩:=MF
 obtain⟨ft,zb,mt,gt,bt⟩:=MT
 obtain⟨fs,zc,ms,gs,bs⟩:=yy
 obtain⟨fr,zd,mr,gr,br⟩:=CM.raised
 obtain⟨fW,zg,mW,gW,bW⟩:=CM.way
 obtain⟨fU,zh,mU,gU,bU⟩:=WN v.y
 have z2:2<=sizeLine:=C6 (by decide)
 refine⟨_,(A2 (C8 (psz (i:=3) scCtxCh.nd (C7 (pv 0) rfl))) (A2 (C8 (psz (i:=4) scCtxCh.nd (Y6 (Y6 (pv 3) C.cl mW gW J bW .nil I) (CM.wc v.y).cl mU gU J bU .nil I))) (A2 (C8 (D3 (PW.pt (A5u (B5 D5 (pv 1) A9 B8) (A3p (B5 D5 (G9 A0h (by rfl) O.len_ PySem.boot_len (A0 (pv 2) A1)) A4 B8)))) (A3 (C8 (psz (i:=5) scCtxCh.nd (A0r MC.m MC.g J C.g B4 .nil I (A0 (B7 dA dB J I (A0 (G7 G4 (pv 2) A4 (fun _ _=>rfl)) A1)) (A0 (pv 4) (A0 (C7 (pv 3) rfl) (A0 (C7 (pv 3) rfl) A1)))))))) (A3 (C8 (D3 (PW.pt (A5u (B5 D5 (pv 1) A9 B8) (A3p (B5 A1c (G9 A0h (by rfl) O.len_ PySem.boot_len (A0 (pv 2) A1)) (A0s (A0 A4 (A0 A4 A1))) (by rfl))))) (A3 (C8 (psz (i:=5) scCtxCh.nd (A0r MC.m MC.g J C.g B4 .nil I (A0 (C7 (pv 3) rfl) (A0 (A1x PySem.F.plainAttrs_str PySem.F.slot_str_join PySem.F.type_str_join B3f A9 (A0 (pv 2) A1)) (A0 (C7 (pv 3) rfl) (A0 (C7 (pv 3) rfl) A1)))))))) (A3 (C8 (D3 (PW.pt (A5u (B5 D5 (pv 1) A9 B8) (A3p (B5 D5 (G9 A0h (by rfl) O.len_ PySem.boot_len (A0 (pv 2) A1)) A4 B8)))) (A3 (C8 (psz (i:=5) scCtxCh.nd (A0r MC.m MC.g J C.g B4 .nil I (A0 (C7 (pv 3) rfl) (A0 (pv 4) (A0 (B7 dA dB J I (A0 (G7 G4 (pv 2) A4 (fun _ _=>rfl)) A1)) (A0 (B7 dA dB J I (A0 (G7 G4 (pv 2) A4 (fun _ _=>rfl)) A1)) A1)))))))) (A3 (A7 A9)))))))))) (A2 (C8 (J9 (A2z (pv 5) C.cl mr gr J br .nil I (A0 (Y6 (pv 3) C.cl mf gf J bf .nil I) A1)))) (A2 (C8 (J9 (A2z (pv 5) C.cl mt gt J bt .nil I (A0 (Y6 (pv 3) C.cl ms gs J bs .nil I) A1)))) (A2 (C8 (A0w (pv 0) (pv 5) rfl)) (A3 (A7 A9)))))))),?_⟩
 obtain⟨dx,ec⟩:=hc.ins
 refine⟨fun g s=>s=H/\g=st6 d nm l (some (.ref c)) none none,⟨rfl,ed,DC.cl,DC.n,rfl,rfl,rfl⟩,?_⟩
 rintro g M ⟨rfl,rfl⟩
 refine⟨fun g s=>C9 M s/\g=st6 d nm l (some (.ref c)) (some (.str v.y.name)) none,⟨rfl,ec,A4u,c,v.r,v.y,v.l,v.m,a,b,_,_,rfl,hc,fun q dq H2 nq s2 eq=>⟨rfl,eq,rfl,q,rfl,s2,rfl⟩⟩,?_⟩
 rintro g H2 ⟨s2,rfl⟩
 have B:=s2 _ _ el
 have G:=s2 _ _ ec
 have za:=hc.same s2
 refine⟨fun g s=>∃A F a' b',A4v v nm ws= .ok F/\C9 M s/\M A=none/\U5 CC s A F a' b' [] []/\g=st6 d nm l (some (.ref c)) (some (.str v.y.name)) (some (.ref A)),?_,?_⟩
 . have ML : (ws.map V.str).length=ws.length:=aP _
   have fin:∀{r l' m:Int} {z:Str} {x:Addr},H2 x=none ->A4v v nm ws=mkC r (A3u z) l' m ->MkP CC C3 H2 x (fun s=>∃A F a' b',A4v v nm ws= .ok F/\C9 M s/\M A=none/\U5 CC s A F a' b' [] []/\st6 d nm l (some (.ref c)) (some (.str v.y.name)) (some (.ref x))=st6 d nm l (some (.ref c)) (some (.str v.y.name)) (some (.ref A))) (fun C dd s=>E C dd s) (mkC r (A3u z) l' m):=fun{r l' m z x} nx e=>by
     rw[e] at k ⊢
     cases R:mkC r (A3u z) l' m with
     |ok F=>exact fun a' b' s N na nb ct=>⟨x,F,a',b',rfl,s2.trans N,s2.free nx,ct,rfl⟩
     | noline=>
       exfalso
       unfold mkC at R
       split at R
       . cases R
       . split at R<;>cases R
     | nocount=>
       exfalso
       unfold mkC at R
       split at R
       . cases R
       . split at R<;>cases R
     | bad=>
       rw[R] at k
       exact fun s N=>k s (s2.trans N)
   by_cases g1:nm="room"/\ws.length=1
   . obtain⟨z,rfl⟩:∃z,ws=[z]:=by
       match ws,g1.2 with
       | [z],_=>exact⟨z,rfl⟩
     have lz:=C2h (i:=0) (ws:=[z]) rfl
     refine⟨rfl,rfl,Y8 (aM V.str g1.1) ⟨l,_,rfl,.inl (SqL.of B),rfl,rfl,Y8 rfl ⟨_,?_,fun _ _ h=>h⟩⟩⟩
     have L:A4v v nm [z]=(match A5k z with|none=>Chg.nocount|some n=>mkC n (some v.y) v.l v.m):=by unfold A4v;rw[aC g1];rfl
     refine⟨rfl,rfl,SqL.of B,D9 (j:=0) rfl,z,rfl,by lia,?_⟩
     cases hn:A5k z with
     | none=>
       rw[hn] at L
       rw[L] at k
       exact .inr ⟨rfl,k _ s2⟩
     | some n=>
       rw[hn] at L
       refine .inl ⟨n,rfl,rfl,G,C.cl,C.n_least,A6h,rfl,G,C.cl,C.n_most,A3w,fun x xx X n2 ne=>C4f T X n2 ne (fin X ?_)⟩
       rw[L,B1w]
   . refine have els:= ?els;⟨rfl,rfl,G5 (fun h1=>⟨l,_,rfl,.inl (SqL.of B),rfl,rfl,Y0 (fun h2=>g1 ⟨V.str.inj h1,by have:=V.int.inj h2;lia⟩) els⟩) (fun _=>V4 els)⟩
     case els=>
     refine⟨_,?_,fun _ _ h=>h⟩
     by_cases g2:nm="way"/\(ws.length=1\/ws.length=2)
     . refine⟨rfl,rfl,Y8 (aM V.str g2.1) ⟨l,_,rfl,.inl (SqL.of B),z2,fun p np=>?_⟩⟩
       have u:=C9.upd (o:= .tup [.int 1,.int 2]) np
       refine⟨p,_,rfl,.inr (SqT.of A6),rfl,rfl,rfl,?_⟩
       have xv:inV (.int ((ws.map V.str).length:Int)) [.int 1,.int 2]=true:=by
         rw[ML]
         rcases g2.2 with q|q<;>rw[q]<;>rfl
       rw[aA aB,xv]
       refine Y9 ⟨_,?_,fun _ _ h=>h⟩
       have e2:A4v v nm ws=mkC v.r (A3u (Txt.join " " ws)) v.l v.m:=by unfold A4v;rw[aA g1,aC g2]
       refine⟨rfl,u _ _ G,C.cl,C.n_room,A0f,rfl,_,l,ws,rfl,rfl,SqL.of (u _ _ B),A8j sw,rfl,u _ _ G,C.cl,C.n_least,A6h,rfl,u _ _ G,C.cl,C.n_most,A3w,fun x xx X n2 ne=>C4f T X n2 ne ?_⟩
       have W:=fin (u.free X) e2
       revert W
       cases mkC v.r (A3u (Txt.join " " ws)) v.l v.m with
       |ok F=>exact fun W a' b' s N na nb ct=>W a' b' s (u.trans N) (u.free na) (u.free nb) ct
       |noline=>exact fun W s N=>W s (u.trans N)
       |nocount=>exact fun W s N=>W s (u.trans N)
       |bad=>exact fun W s N=>W s (u.trans N)
     . by_cases hw:nm="way"
       . have e3:A4v v nm ws= .noline:=by
           unfold A4v
           rw[aA g1,aA g2,aA]
           rintro⟨q,_⟩
           rw[hw] at q
           exact absurd q (by decide+kernel)
         rw[e3] at k
         refine⟨rfl,rfl,Y8 (aM V.str hw) ⟨l,_,rfl,.inl (SqL.of B),z2,fun p np=>?_⟩⟩
         have u:=C9.upd (o:= .tup [.int 1,.int 2]) np
         refine⟨p,_,rfl,.inr (SqT.of A6),rfl,rfl,rfl,?_⟩
         have xv:inV (.int ((ws.map V.str).length:Int)) [.int 1,.int 2]=false:=by
           rw[ML]
           show((1:Int)==(ws.length:Int)||((2:Int)==(ws.length:Int)||false))=false
           rw[cO.mpr (fun q=>g2 ⟨hw,.inl (by lia)⟩),cO.mpr (fun q=>g2 ⟨hw,.inr (by lia)⟩)]
           rfl
         rw[aA aB,xv]
         refine V4 ⟨_,?_,fun _ _ h=>h⟩
         exact⟨rfl,rfl,Y0 (fun q=>absurd ((V.str.inj q).symm.trans hw) (by decide+kernel)) (V4 (k _ (s2.trans u)))⟩
       . refine⟨rfl,rfl,Y0 (fun q=>hw (V.str.inj q)) (V4 ⟨_,?_,fun _ _ h=>h⟩)⟩
         by_cases g3:nm="bounds"/\ws.length=2
         . obtain⟨z,y,rfl⟩:∃z y,ws=[z,y]:=by
             match ws,g3.2 with
             | [z,y],_=>exact⟨z,y,rfl⟩
           have lz:=C2h (i:=0) (ws:=[z,y]) rfl
           have ly:=C2h (i:=1) (ws:=[z,y]) rfl
           have L:A4v v nm [z,y]=(match A5k z with|none=>Chg.nocount|some a=>match A5k y with|none=> .nocount|some b=>mkC v.r (some v.y) a b):=by unfold A4v;rw[aA g1,aA g2,aC g3];rfl
           refine⟨rfl,rfl,Y8 (aM V.str g3.1) ⟨l,_,rfl,.inl (SqL.of B),rfl,rfl,Y8 rfl ⟨_,?_,fun _ _ h=>h⟩⟩⟩
           refine⟨rfl,G,C.cl,C.n_room,A0f,rfl,rfl,SqL.of B,D9 (j:=0) rfl,z,rfl,by lia,?_⟩
           cases hn:A5k z with
           | none=>
             rw[hn] at L
             rw[L] at k
             exact .inr ⟨rfl,k _ s2⟩
           | some n=>
             rw[hn] at L
             refine .inl ⟨n,rfl,rfl,rfl,SqL.of B,D9 (j:=1) rfl,y,rfl,by lia,?_⟩
             cases xz:A5k y with
             | none=>
               rw[xz] at L
               rw[L] at k
               exact .inr ⟨rfl,k _ s2⟩
             | some n2=>
               rw[xz] at L
               refine .inl ⟨n2,rfl,fun x xx X yo ne=>C4f T X yo ne (fin X ?_)⟩
               rw[L,B1w]
         . have e3:A4v v nm ws= .noline:=by
             unfold A4v
             rw[aA g1,aA g2,aA g3]
           rw[e3] at k
           exact⟨rfl,rfl,G5 (fun h1=>⟨l,_,rfl,.inl (SqL.of B),rfl,rfl,Y0 (fun h2=>g3 ⟨V.str.inj h1,by have:=V.int.inj h2;lia⟩) (k _ s2)⟩) (fun _=>V4 (k _ s2))⟩
 rintro g H3 ⟨A,F,a',b',ek,s3,nc,yi,rfl⟩
 rw[ek] at k
 have k:∀A a' b' s,Exc d M s ->M A=none ->M a'=none ->M b'=none ->A4d CD s d A ->U5 CC s A F a' b' xs ys ->Q (.str "done") s:=k
 obtain⟨xx,yw⟩:=yi.ins
 have yu:=s3 _ _ ec
 have yp:=hc.same s3
 refine⟨fun g s=>∃a2,Exc A H3 s/\M a2=none/\U5 CC s A F a2 b' xs []/\g=st6 d nm l (some (.ref c)) (some (.str v.y.name)) (some (.ref A)),?_,?_⟩
 . refine⟨rfl,yw,A0t,rfl,yu,A4j,c,v.r,v.y,v.l,v.m,a,b,_,_,rfl,yp,fun p np=>?_⟩
   have u:=C9.upd (o:= .lst (xs.map V.str)) np
   have hl:hit [] xs=none:=rfl
   refine⟨A,F.r,F.y,F.l,F.m,a',b',[],[],.ref p,rfl,yi.same u,by show 0+100<=1000;decide,.inl ⟨p,xs,rfl,A6,by have:=B2j ox;lia,A3q ox,fun _ a2 H4 x4 na ct=>?_,fun t ht=>by rw[hl] at ht;cases ht⟩⟩
   rw[kL,ox] at ct
   exact⟨a2,(Exc.of u).trans x4,(s3.trans u).free na,ct,rfl⟩
 rintro g H4 ⟨a2,x4,yn,yh,rfl⟩
 have yz:c≠A:=D6 ec nc
 have keep:∀q o,M q=some o ->H4 q=some o:=fun q o e=>x4 _ _ (s3 _ _ e) (D6 e nc)
 obtain⟨zj,yt⟩:=yh.ins
 have xu:U5 CC H4 c v a b xs ys:=hc.same keep
 obtain⟨zi,yq⟩:=xu.ins
 refine⟨fun g s=>∃b2,Exc A H4 s/\M b2=none/\U5 CC s A F a2 b2 xs ys/\g=st6 d nm l (some (.ref c)) (some (.str v.y.name)) (some (.ref A)),?_,?_⟩
 . refine⟨rfl,yt,A3t,rfl,yq,B3g _ _ _ _ _ _,c,v.r,v.y,v.l,v.m,a,b,_,_,rfl,xu,fun p np=>?_⟩
   have u:=C9.upd (o:= .lst (ys.map V.str)) np
   refine⟨A,F.r,F.y,F.l,F.m,a2,b',_,_,.ref p,rfl,yh.same u,.inl ⟨p,ys,rfl,A6,A3q oy,fun b2 H5 x5 nb ct=>?_⟩⟩
   rw[oy] at ct
   exact⟨b2,(Exc.of u).trans x5,(C9.trans keep u).free nb,ct,rfl⟩
 rintro g H5 ⟨b2,x5,ym,U,rfl⟩
 have xy:d≠A:=D6 ed nc
 have xw:H5 d=some (.ins CD dd [("context",.ref c)]):=x5 _ _ (keep _ _ ed) xy
 refine⟨fun g s=>s=upd H5 d (.ins CD dd [("context",.ref A)])/\g=st6 d nm l (some (.ref c)) (some (.str v.y.name)) (some (.ref A)),⟨rfl,xw,DC.cl,DC.n,by show 1<1000;decide,rfl,rfl⟩,?_⟩
 rintro g H6 ⟨rfl,rfl⟩
 obtain⟨yx,yr⟩:=U.ins
 refine k A a2 b2 _ (fun q o e n=>?_) nc yn ym ⟨dd,A6⟩ ⟨⟨yx,by rw[D8 (eU xy)];exact yr⟩,?_,?_⟩
 . rw[D8 n]
   exact x5 _ _ (keep _ _ e) (D6 e nc)
 . rw[D8 (A2v U.ha xw (by intro z;cases z))]
   exact U.ha
 rw[D8 (A2v U.hb xw (by intro z;cases z))]
 exact U.hb
abbrev A9k:Stmt:=(top 124)
abbrev B6c:Stmt:=(top 123)
inductive D5r where
 |ans (t:Str) (v:Cv) (xs ys:List Str)
 |bad
 |trap (z:Str) (xs:List Str)
def D1r(v:Cv)(xs ys:List Str)(res:Nm×List Str):D5r:=match hit ys res.2 with
 |none=> .ans (S (wrL res.1)) v (V7 (xs++res.2)) ys
 |some z=> .trap z (V7 (xs++res.2))
def A8u(v:Cv)(xs ys ws:List Str)(r:D5r):Prop:=
 if(Q55:List Str).contains (ws.getD 0 "")=true then(match A4v v (ws.getD 0 "") (ws.drop 1) with
   | .ok b=>r= .ans "done" b xs ys
   | .bad=>r= .bad
   |_=>False)
 else if(Q56:List Str).contains (ws.getD 0 "")=true then(match D0f (ws.getD 0 "") (ws.drop 1) xs ys with
   |some q=>r= .ans q.1 v q.2.1 q.2.2
   |none=>False)
 else if(["power","scaled"]:List Str).contains (ws.getD 0 "")=true then∃z y x,∃k:Int,ws.drop 1=[z,y]/\RdT z x/\y.length<=900/\A5k y=some k/\(ws.getD 0 ""="power" -> -20<=k/\k<=20)/\ -100<=k/\k<=100/\r=D1r v xs ys (CNT (ws.getD 0 "") v x k)
 else∃nm a ps,ws=a++ps.map (·.1)/\G5n nm a ps/\(a.map (·.length)).sum+a.length<=900/\(nm="compare" ->∃x y,ps.map (·.2)=[x,y]/\r= .ans (B5t x y) v xs ys)/\(nm≠"compare" ->r=D1r v xs ys (RES nm v (ps.map (·.2))))
def D7b(d c:Addr)(H a:Hp):Prop:=∀p o,H p=some o ->p≠d ->p≠c ->a p=some o
def J7h(j CC m CT:Addr)(H:Hp)(d c a b:Addr)(v:Cv)(ys:List Str)(Q:VK)(E:XK):D5r ->Prop
 | .ans t l g i=>∀h a' b' e,D7b d c H e ->A4d j e d h ->U5 CC e h l a' b' g i ->NwL H a b a' b' ->(h=c\/H h=none) ->Q (.str t) e
 | .bad=>∀e,C9 H e ->E (.ref m) none e
 | .trap z g=>∀a' d' e,D7b d c H e ->A4d j e d c ->U5 CC e c v a' b g ys ->NwL H a b a' b ->e d'=some (.xd [("signal",.str z)]) ->E (.ref CT) (some d') e
def D9f(s:C9 H a):D7b d c H a:=fun p o e _ _=>s p o e
def C9t(x:Exc c H a):D7b d c H a:=fun p o e _ n=>x p o e n
def J8f(x:Exc d H a):D7b d c H a:=fun p o e n _=>x p o e n
def J6q{j CC:Addr}(g:A4d j H d c)(h:U5 CC H c v a b xs ys):d≠c:=fun q=>by
 obtain⟨dd,e⟩:=g
 obtain⟨l,i⟩:=h.ins
 rw[q,i] at e
 injection e with e
 injection e with _ _ e
 have:=aM List.length e
 rw[B1z] at this
 cases this
def J5f{ws:List Str}(h:OkL ws):OkL (ws.drop 1):=⟨by rw[bZ];have:=h.1;lia,fun z a=>h.2 z (fO a)⟩
def G1k(ws:List Str):((ws.drop 1).map (·.length)).sum+(ws.drop 1).length<=(ws.map (·.length)).sum+ws.length:=by
 have e:(ws.map (·.length)).sum=((ws.take 1).map (·.length)).sum+((ws.drop 1).map (·.length)).sum:=by
   rw[<-List.sum_append, <-cL,iY]
 have l:(ws.drop 1).length<=ws.length:=by rw[bZ];lia
 lia
def C7h{q CC t CT:Addr}(m:A4d q H d c)(n:U5 CC H c v a b xs ys)(g:C9 H p)(k:J7h q CC t CT H d c a b v ys Q E (D1r v xs ys res)):C7u CC CT p c v b xs ys Q E res:=by
 have i:=J6q m n
 obtain⟨dd,o⟩:=m
 have h:∀{a'},C4c CC p c a' ->NwL H a b a' b:=fun{a'} nw z j s r=>⟨nw z (fun e=>j (g.free e)) ⟨v,a,b,xs,ys,n.same g,s⟩,r⟩
 unfold D1r at k
 refine⟨fun hh a' l nw x ct=>?_,fun z j a' d' l nw x ct e=>?_⟩
 . rw[hh] at k
   exact k c a' b l (C9t ((Exc.of g).trans x)) ⟨dd,x _ _ (g _ _ o) i⟩ ct (h nw) (.inl rfl)
 rw[j] at k
 exact k a' d' l (C9t ((Exc.of g).trans x)) ⟨dd,x _ _ (g _ _ o) i⟩ ct (h nw) e
structure Fit(ws:List Str):Prop where
 ne:ws≠ []
 ok:OkL ws
 su:(ws.map (·.length)).sum+ws.length<=900
inductive G4t(e CC g CT:Addr)(vs:List V)(H:Hp)(Q:VK)(E:XK):Prop
 |mk(d c v a b xs ys l ws r)(_:vs=[.ref d,.ref l])(_:A4d e H d c)(_:U5 CC H c v a b xs ys)(_:v.Ok)(_:V7 xs=xs)(_:V7 ys=ys)(_:H l=some (.lst (ws.map V.str)))(_:Fit ws)(_:A8u v xs ys ws r)(_:J7h e CC g CT H d c a b v ys Q E r)
def C8r:B9 Q18 Q18 (A5 A9k):=scK
def J1y{f f1 f2 f3 f4 CD CC C3 C4 CT:Addr}(D:Def K Y "line_done" Q18 A9k f fd)(dA:Def K Y "context_changed" Q49 C3h f1 yp)(dB:sI P w K Y Z 5 f1 yp Q49 (D5n CD CC C3 C4))(dC:Def K Y "signals_handled" Q20 D2s f2 yo)(dE:sI P w K Y Z 3 f2 yo Q20 (G5e CC C3))(dF:Def K Y "counted" Q20 B2u f3 yn)(dG:sI P w K Y Z 9 f3 yn Q20 (C1h CC CT))(dH:Def K Y "reckoned" Q48 D4a f4 ym)(dJ:sI P w K Y Z 10 f4 ym Q48 (G5h CC CT))(M:C7v K Y CD):sI P w K Y Z 11 f fd Q18 (G4t CD CC C3 CT):=by
 refine okZ D.F C8r ?_
 rintro _ _ _ _ H _ Q E hr hx⟨d,c,v,a,b,xs,ys,l,ws,r,rfl,hd,F,ok,O,oy,C,ft,i,k⟩
 obtain⟨xy,T,sw⟩:=ft
 have lw:=T.1
 refine⟨_,(A2 (C8 (D3 (B5 A1c (G7 G4 (pv 1) A4 (fun _ _=>rfl)) (A0s (A0 A9 (A0 A9 (A0 A9 A1)))) (by rfl)) (A3 (A7 (B7 dA dB hr hx (A0 (pv 0) (A0 (G7 G4 (pv 1) A4 (fun _ _=>rfl)) (A0 (Z8 A3n (pv 1) (A0p A4) A0q) A1)))))) C0)) (A2 (C8 (D3 (B5 A1c (G7 G4 (pv 1) A4 (fun _ _=>rfl)) (A0s (A0 A9 (A0 A9 (A0 A9 A1)))) (by rfl)) (A3 (A7 (B7 dC dE hr hx (A0 (C7 (pv 0) rfl) (A0 (G7 G4 (pv 1) A4 (fun _ _=>rfl)) (A0 (Z8 A3n (pv 1) (A0p A4) A0q) A1)))))) C0)) (A2 (C8 (D3 (B5 A1c (G7 G4 (pv 1) A4 (fun _ _=>rfl)) (A0s (A0 A9 (A0 A9 A1))) (by rfl)) (A3 (A7 (B7 dF dG hr hx (A0 (C7 (pv 0) rfl) (A0 (G7 G4 (pv 1) A4 (fun _ _=>rfl)) (A0 (Z8 A3n (pv 1) (A0p A4) A0q) A1)))))) C0)) (A3 (A7 (B7 dH dJ hr hx (A0 (C7 (pv 0) rfl) (A0 (pv 1) A1)))))))),?_⟩
 have z3:3<=sizeLine:=C6 (by decide)
 have z2:2<=sizeLine:=C6 (by decide)
 obtain⟨dd,L⟩:=id hd
 have xv:=J6q hd F
 obtain⟨g,wr,ew⟩:∃g wr,ws=g::wr:=by
   cases ws with
   |nil=>exact absurd rfl xy
   |cons g wr=>exact⟨g,wr,rfl⟩
 have e0:ws.getD 0 ""=g:=by rw[ew];rfl
 have s:atI (ws.map V.str) 0=some (.str g):=by rw[ew];exact D9 (j:=0) rfl
 have B:A3v (ws.map V.str) (some 1) none=(ws.drop 1).map V.str:=by
   have:=A9t (ws.map V.str) 1
   rw[<-List.map_drop] at this
   exact this
 have ds:=G1k ws
 have dl:(ws.drop 1).length<=100:=by rw[bZ];lia
 have X:∀(x y z:Str),inV (.str g) [.str x,.str y,.str z]=([x,y,z]:List Str).contains g:=fun x y z=>A1p g [x,y,z]
 have xw:∀(x y:Str),inV (.str g) [.str x,.str y]=([x,y]:List Str).contains g:=fun x y=>A1p g [x,y]
 unfold A8u at i
 rw[e0] at i
 refine⟨fun n t=>C9 H t/\(Q55:List Str).contains g=false/\n=[sr d,sr l],?_,?_⟩
 . refine⟨rfl,rfl,SqL.of C,s,z3,fun p W=>?_⟩
   have u:=C9.upd (o:= .tup [.str "room",.str "way",.str "bounds"]) W
   refine⟨p,_,rfl,.inr (SqT.of A6),rfl,rfl,rfl,?_⟩
   rw[aA aB,X]
   generalize upd H p (.tup [.str "room",.str "way",.str "bounds"])=G at u
   cases A:(Q55:List Str).contains g with
   |false=>exact V4 ⟨u,rfl,rfl⟩
   | true=>
     rw[A,aC rfl] at i
     refine Y9 ⟨rfl,rfl,SqL.of (u _ _ C),s,_,rfl,l,_,rfl,SqL.of (u _ _ C),fun q U=>?_⟩
     have u2:=u.trans (C9.upd (o:= .lst (A3v (ws.map V.str) (some 1) none)) U)
     have I:upd G q (.lst (A3v (ws.map V.str) (some 1) none)) q=some (.lst ((ws.drop 1).map V.str)):=by rw[A6,B]
     generalize upd G q (.lst (A3v (ws.map V.str) (some 1) none))=G2 at u2 I
     refine⟨d,c,v,a,b,xs,ys,g,q,ws.drop 1,rfl,⟨dd,u2 _ _ L⟩,F.same u2,O,oy,I,dl,by lia,?_⟩
     revert i
     cases A4v v g (ws.drop 1) with
     |noline=>exact fun i=>i.elim
     |nocount=>exact fun i=>i.elim
     | bad=>
       rintro rfl
       exact fun t N=>k t (u2.trans N)
     | ok v'=>
       rintro rfl
       exact fun c' a' b' t x nc na nb yj ct=>k c' a' b' t (J8f ((Exc.of u2).trans x)) yj ct (fun z hz _ _=>⟨C0e hz (u2.free na),C0e hz (u2.free nb)⟩) (.inr (u2.free nc))
 rintro n H1 ⟨s1,yi,rfl⟩
 rw[yi,aA aB] at i
 have yt:=s1 _ _ C
 refine⟨fun n t=>C9 H t/\(Q56:List Str).contains g=false/\n=[sr d,sr l],?_,?_⟩
 . refine⟨rfl,rfl,SqL.of yt,s,z3,fun p W=>?_⟩
   have u:=s1.trans (C9.upd (o:= .tup [.str "trap",.str "flags",.str "clear"]) W)
   refine⟨p,_,rfl,.inr (SqT.of A6),rfl,rfl,rfl,?_⟩
   rw[aA aB,X]
   generalize upd H1 p (.tup [.str "trap",.str "flags",.str "clear"])=G at u
   cases A:(Q56:List Str).contains g with
   |false=>exact V4 ⟨u,rfl,rfl⟩
   | true=>
     rw[A,aC rfl] at i
     refine Y9 ⟨rfl,u _ _ L,M.cl,M.n,rfl,rfl,rfl,SqL.of (u _ _ C),s,_,rfl,l,_,rfl,SqL.of (u _ _ C),fun q U=>?_⟩
     have u2:=u.trans (C9.upd (o:= .lst (A3v (ws.map V.str) (some 1) none)) U)
     have I:upd G q (.lst (A3v (ws.map V.str) (some 1) none)) q=some (.lst ((ws.drop 1).map V.str)):=by rw[A6,B]
     generalize upd G q (.lst (A3v (ws.map V.str) (some 1) none))=G2 at u2 I
     refine⟨c,v,a,b,xs,ys,g,q,ws.drop 1,rfl,F.same u2,I,J5f T,J9v O,D4m O,?_⟩
     revert i
     cases D0f g (ws.drop 1) xs ys with
     |none=>exact fun i=>i.elim
     | some q=>
       rintro rfl
       exact fun a' b' t x ct nw=>k c a' b' t (C9t ((Exc.of u2).trans x)) ⟨dd,x _ _ (u2 _ _ L) xv⟩ ct (fun z hz h1 h2=>nw z (fun e=>hz (u2.free e)) h1 h2) (.inl rfl)
 rintro n H2 ⟨s2,yh,rfl⟩
 rw[yh,aA aB] at i
 have yr:=s2 _ _ C
 refine⟨fun n t=>C9 H t/\(["power","scaled"]:List Str).contains g=false/\n=[sr d,sr l],?_,?_⟩
 . refine⟨rfl,rfl,SqL.of yr,s,z2,fun p W=>?_⟩
   have u:=s2.trans (C9.upd (o:= .tup [.str "power",.str "scaled"]) W)
   refine⟨p,_,rfl,.inr (SqT.of A6),rfl,rfl,rfl,?_⟩
   rw[aA aB,xw]
   generalize upd H2 p (.tup [.str "power",.str "scaled"])=G at u
   cases A:(["power","scaled"]:List Str).contains g with
   |false=>exact V4 ⟨u,rfl,rfl⟩
   | true=>
     rw[A,aC rfl] at i
     obtain⟨z,y,x,m,ez,rt,ly,hm,hp,m0,m1,rfl⟩:=i
     refine Y9 ⟨rfl,u _ _ L,M.cl,M.n,rfl,rfl,rfl,SqL.of (u _ _ C),s,_,rfl,l,_,rfl,SqL.of (u _ _ C),fun q U=>?_⟩
     have u2:=u.trans (C9.upd (o:= .lst (A3v (ws.map V.str) (some 1) none)) U)
     have I:upd G q (.lst (A3v (ws.map V.str) (some 1) none)) q=some (.lst [.str z,.str y]):=by rw[A6,B,ez];rfl
     generalize upd G q (.lst (A3v (ws.map V.str) (some 1) none))=G2 at u2 I
     exact⟨c,v,a,b,xs,ys,g,q,z,y,x,m,rfl,F.same u2,ok,O,I,rt,ly,hm,hp,m0,m1,C7h hd F u2 k⟩
 rintro n H3 ⟨J,xz,rfl⟩
 rw[xz,aA aB] at i
 obtain⟨nm,xu,ps,rfl,R,sn,yk,xx⟩:=i
 refine⟨rfl,J _ _ L,M.cl,M.n,rfl,c,v,a,b,xs,ys,l,nm,xu,ps,rfl,F.same J,ok,O,J _ _ C,sn,R,fun h x y yq t N=>?_,fun h=>?_⟩
 . obtain⟨x',y',e',rfl⟩:=yk h
   rw[yq] at e'
   injection e' with e1 e2
   injection e2 with e2 _
   subst e1 e2
   exact k c a b t (D9f (J.trans N)) ⟨dd,(J.trans N) _ _ L⟩ (F.same (J.trans N)) (NwL.refl _ _ _) (.inl rfl)
 rw[xx h] at k
 exact C7h hd F J k
structure DSt where
 v:Cv
 xs:List Str
 ys:List Str
structure DSt.Ok(s:DSt):Prop where
 v:s.v.Ok
 x:V7 s.xs=s.xs
 y:V7 s.ys=s.ys
structure B8t(CD CC:Addr)(H:Hp)(d c a b:Addr)(s:DSt):Prop where
 d:A4d CD H d c
 c:U5 CC H c s.v a b s.xs s.ys
structure D5j(K:Frag)(mg:Str ->Option Value)(C2 C3 C4 CT:Addr):Prop where
 g2:mg "NoText"=some (.ref C2)
 g4:mg "BadCount"=some (.ref C4)
 g3:mg "BadContext"=some (.ref C3)
 gT:mg "Trapped"=some (.ref CT)
 c2:B1d K C2
 c4:B1d K C4
 c3:B1d K C3
 cT:B1d K CT
 s32:subIn K (.ref C3) (.ref C2)=some false
 s34:subIn K (.ref C3) (.ref C4)=some false
 s33:subIn K (.ref C3) (.ref C3)=some true
 t2:subIn K (.ref CT) (.ref C2)=some false
 t4:subIn K (.ref CT) (.ref C4)=some false
 t3:subIn K (.ref CT) (.ref C3)=some false
 tT:subIn K (.ref CT) (.ref CT)=some true
 k:D1v K CT
 dict:∃cd,clsIn K CT=some cd/\cd.hasDict=true
 nosig:findIn K (.ref CT) "signal"=some none
def A4d.same(h:A4d b H d c)(e:C9 H a):A4d b a d c:=by
 obtain⟨dd,z⟩:=h
 exact⟨dd,e _ _ z⟩
def B8t.same{i CC:Addr}{H g:Hp}{d c a b:Addr}{s:DSt}(h:B8t i CC H d c a b s)(e:C9 H g):B8t i CC g d c a b s:=⟨h.d.same e,h.c.same e⟩
def C7d{X:Cx}{K:Frag}(h:X.K=K){f:Str}(he:PE X e a)(b:attributeBase e f X.env (eval e X.env)=eval e X.env):PE X (.Attribute e f pos) (J7m K a f):=by subst h;exact J4a he b
def V0t(s:DSt)(t:Str)(c:DSt):D5r ->Prop
 | .ans t' d a b=>t=t'/\c=⟨d,a,b⟩
 | .bad=>t="bad context"/\c=s
 | .trap z a=>z.length<=100/\t="trapped "++z/\c=⟨s.v,a,s.ys⟩
inductive C8c(s:DSt)(ws:List Str)(t:Str)(a:DSt):Prop
 |mk(_:ws.contains ""=false) (r)(_:A8u s.v s.xs s.ys ws r)(_:V0t s t a r)
inductive J7s(i CC:Addr)(vs:List V)(H:Hp)(Q:VK)(_:XK):Prop
 |mk(d c a b s l ws t h)(_:vs=[.ref d,.ref l])(_:B8t i CC H d c a b s)(_:s.Ok)(_:H l=some (.lst (ws.map V.str)))(_:Fit ws)(_:C8c s ws t h)(_:∀e a' b' g,D7b d c H g ->B8t i CC g d e a' b' h ->NwL H a b a' b' ->(e=c\/H e=none) ->Q (.str t) g)
def scAnswer:B9 ["desk","words","refusal"] Q18 (A5 B6c):=scK
def D6q{f G J CC C2 L C4 CT:Addr}(D:Def K Y "answer_of" Q18 B6c f fd)(dA:Def K Y "line_done" Q18 A9k G C)(dB:sI P w K Y Z 11 G C Q18 (G4t J CC L CT))(R:D5j K Y C2 L C4 CT):sI P w K Y Z 12 f fd Q18 (J7s J CC):=by
 refine okZ D.F scAnswer ?_
 rintro _ _ _ s H _ Q E O hx⟨d,c,a,b,s,l,ws,t,v,rfl,B,ok,I,ft,⟨A,r,U,F⟩,k⟩
 refine⟨_,(A2 (C8 (D3 (B5 A1c A9 (pv 1) (by rfl)) (A3 (A7 A9)) C0)) (A3 (C8 (C4h ⟨rfl,rfl,rfl⟩ (fun g Ew xu W=>(A3 (A7 (B7 dA dB O W (A0 (pv 0) (A0 (pv 1) A1)))))) (C1x R.g2 R.c2 (fun g a=>(A3 (A7 A9))) (C1x R.g4 R.c4 (fun g a=>(A3 (A7 A9))) (C1x R.g3 R.c3 (fun g a=>(A3 (A7 A9))) (J7e R.gT R.cT scAnswer.nd (i:=2) rfl rfl (fun g a=>(A3 (A7 (D0 V1 A9 (C7d (K:=K) rfl (pv 2) rfl))))) C1z)))))))),fun m n=>n=H/\m=[sr d,sr l,none],?_,?_⟩
 . refine⟨l,_,rfl,.inl (SqL.of I),rfl,A3b _,rfl,?_⟩
   rw[aA aB,A1p,A]
   exact V4 ⟨rfl,rfl⟩
 rintro m H1 ⟨rfl,rfl⟩
 refine⟨_,?_,fun _ _ h=>h⟩
 refine⟨d,c,s.v,a,b,s.xs,s.ys,l,ws,r,rfl,B.d,B.c,ok.v,ok.x,ok.y,I,ft,U,?_⟩
 cases r with
 | ans t' v' q M=>
   obtain⟨rfl,rfl⟩:=F
   exact fun c' a' b' n y j ct nw N=>k c' a' b' n y ⟨j,ct⟩ nw N
 | bad=>
   obtain⟨rfl,rfl⟩:=F
   exact fun n v=> .inr ⟨R.s32,.inr ⟨R.s34,.inl ⟨R.s33,fun x t T nx=>k c a b _ (D9f (v.trans (C9.upd nx))) (B.same (v.trans (C9.upd nx))) (NwL.refl _ _ _) (.inl rfl)⟩⟩⟩
 | trap z q=>
   obtain⟨lz,rfl,rfl⟩:=F
   refine fun a' d' n y j ct nw ed=> .inr ⟨R.t2,.inr ⟨R.t4,.inr ⟨R.t3,.inl ⟨R.tT,fun x t T nx=>?_⟩⟩⟩⟩
   have u:=C9.upd (o:= .frz (A1u (.ref CT) t (some d') (.ref T)) (.own x)) nx
   refine⟨x,CT,_,_,d',_,_,_,rfl,A6,u _ _ ed,R.k,R.dict,R.nosig,rfl,_,_,rfl,rfl,?_,k c a' b _ (fun p o e h1 X=>u _ _ (y p o e h1 X)) ⟨j.same u,ct.same u⟩ nw (.inl rfl)⟩
   exact C6 (by rw[show("trapped ":Str).length=8 by decide+kernel];lia)
abbrev A4s:Stmt:=(U2 (top 121) 0)
abbrev B6k:Stmt:=(top 122)
def st0:DSt:=⟨⟨9,.halfEven, -60,60⟩,[],[]⟩
def D1h:st0.Ok:=⟨⟨by decide,by decide,by decide,by decide,by decide,by decide⟩,by decide+kernel,by decide+kernel⟩
def U0w{X:Cx}{K:Frag}{to:TE}{c a:Pos}{T id:String}(q:X.K=K)(l:PlainAttrs T)(slot:Slot T name id)(j:typeOf (.builtin id)=pure (.type "method_descriptor"))(n:MtR X id r)(ho:PE X o to)(p:PA X (e::h) t)(g:attributeBase o name X.env (eval o X.env)=eval o X.env:=by rfl)(i:((backTo a (starEach (e::h) X.env)).all (fun x=> !x.1)&&(backToKw a (keywordEach [] X.env)).all (fun x=>x.1.isSome)&&decide ((e::h).length+([]:List Keyword).length+(if([]:List Keyword).isEmpty then 0 else 1)<30))=true:=by rfl)(d:(c.endLine==a.line)=true:=by rfl)(m:starEach (e::h) X.env=(false,eval e X.env)::starEach h X.env:=by rfl)(b:(backTo a (starEach h X.env)).any (·.1)=false:=by rfl):PE X (.Call (.Attribute o name c) (e::h) [] a) (tBM K T r to t):=by
 subst q
 exact A1x l slot j n ho p g i d m b
structure U9f(zs ts:List Str)(st:Nat ->DSt):Prop where
 s0:st 0=st0
 len:ts.length=zs.length
 n:zs.length<=900
 go:∀i z,zs[i]?=some z ->∃t,ts[i]?=some t/\z.length<=900/\Fit (Txt.split z " ")/\(st i).Ok/\C8c (st i) (Txt.split z " ") t (st (i+1))
inductive B9j(g CC:Addr)(vs:List V)(H:Hp)(Q:VK)(_:XK):Prop
 |mk(p e)(_:vs=[.ref p])(_:H p=some (.ins g e []))(_:∀c a b d,Exc p H d ->H c=none ->H a=none ->H b=none ->d p=some (.ins g e [("context",.ref c)]) ->U5 CC d c st0.v a b [] [] ->Q .non d)
def C8h:B9 ["self"] ["self"] (A5 A4s):=scK
structure G4y(P:Program)(w:World)(K:Frag)(mg:Str ->Option Value)(base:Heap)(CC CB fI:Addr)(fdI:FuncData)(d9 dh d60:Value):Prop where
 m:D5d P w K mg base CC CB fI fdI
 b0:L2.Binds K fdI Q35 [d9,dh,.none,d60]
 r9:Y3 (.int 9) d9
 rh:Y3 (.str "half even") dh
 r60:Y3 (.int 60) d60
def C6m{f J y CC CB:Addr}{fd l:FuncData}(F:Fun K "__init__" "Desk.__init__" A4s f fd)(h:G4y P w K Y Z CC CB J l N M n)(v:C7v K Y y)(C:B3p K Y CC):sI P w K Y Z 5 f fd ["self"] (B9j y CC):=by
 refine okZ F C8h ?_
 rintro _ _ _ _ H _ Q E I G⟨p,R,rfl,u,k⟩
 have O:U7 [.int 9,.str "half even",.non,.int 60] [N,M,.none,n]:= .cons h.r9 (.cons h.rh (.cons rfl (.cons h.r60 .nil)))
 refine⟨_,(A3 (A0w (pv 0) (C8n h.m.m h.m.g I C.g h.b0 O G) rfl)),?_⟩
 intro x d i t A
 refine⟨x,d,_,_,_,_,rfl,A6,.inl ⟨9,.halfEven, -60,60,rfl,by decide,by decide,rfl,.inl ⟨rfl,rfl⟩,rfl,by decide,by decide,fun a b T e D B c=>⟨rfl,?_⟩⟩⟩
 have free:∀q,upd (upd H d (.own x)) x (.ins CC d []) q=none ->H q=none:=fun q j=>by
   by_cases s:q=x
   . rw[s];exact i
   . rw[D8 s] at j
     by_cases r:q=d
     . rw[r];exact t
     . rw[D8 r] at j;exact j
 have o:=A9q i t A e
 have g:=o _ _ u
 refine⟨rfl,g,v.cl,v.n,by show 0<1000;decide,?_⟩
 obtain⟨m,L⟩:=c.ins
 refine k x a b _ ((Exc.of o).trans Exc.upd) i (free a D) (free b B) A6 ⟨⟨m,?_⟩,?_,?_⟩
 . rw[D8 (eU (D6 u i))];exact L
 . rw[D8 (A2v c.ha g (by intro z;cases z))];exact c.ha
 rw[D8 (A2v c.hb g (by intro z;cases z))];exact c.hb
structure J7t(P:Program)(w:World)(K:Frag)(mg:Str ->Option Value)(base:Heap)(CD CC fI:Addr)(fdI:FuncData):Prop where
 m:Mk K CD fI
 g:sI P w K mg base 5 fI fdI ["self"] (B9j CD CC)
 b:L2.Binds K fdI ["self"] []
inductive C7z(vs:List V)(H:Hp)(Q:VK)(_:XK):Prop
 |mk(l zs b st)(_:vs=[.ref l])(_:H l=some (.lst (zs.map V.str)))(_:U9f zs b st)(_:∀D a,C9 H a ->H D=none ->a D=some (.lst (b.map V.str)) ->Q (.ref D) a)
def scPlayed:B9 ["lines","desk"] ["lines"] (A5 B6k):=scK
def D8q{f f1 fI T CC:Addr}{fd L yi:FuncData}(D:Def K Y "played" ["lines"] B6k f fd)(dA:Def K Y "answer_of" Q18 B6c f1 L)(dB:sI P w K Y Z 12 f1 L Q18 (J7s T CC))(MD:J7t P w K Y Z T CC fI yi)(DC:C7v K Y T):sI P w K Y Z 13 f fd ["lines"] C7z:=by
 refine okZ D.F scPlayed ?_
 rintro _ _ _ _ H _ Q E hr hx⟨l,zs,U,st,rfl,el,R,k⟩
 refine⟨_,(A2 (C8 (D4 (i:=1) scPlayed.nd rfl (Or.inr rfl) (C8n MD.m MD.g hr DC.g MD.b .nil hx))) (A3 (A7 (C1b (N:=["line"]) (F:=["desk"]) (js:=[1]) (U1.of1 ⟨rfl,by decide+kernel,by decide+kernel,by decide+kernel,by decide+kernel⟩ (by rfl) (by rfl) ⟨_,by rfl⟩ (by rfl) (by rfl)) (.inl hr.hd) rfl (A7j (pv 0)) rfl (fun C s₀ H₀ ex pn h=>A1f (i:=0) (by decide+kernel:(["line","desk"]:List Str).Nodup) rfl (Or.inl rfl)) (fun C s₀ H₀ ex pn h=>(B8d dA dB hr (A0 (pv 1) (A0 (U0w (K:=K) rfl PySem.F.plainAttrs_str PySem.F.slot_str_split PySem.F.type_str_split G2m (pv 0) (A0 A9 A1)) A1)))))))),?_⟩
 have n1:((" ":Str).length==0)=false:=by decide+kernel
 have Rn:=R.n
 refine⟨fun A y=>∃d c a b,C9 H y/\H d=none/\H c=none/\B8t T CC y d c a b st0/\A=[sr l,sr d],?_,?_⟩
 . intro x v nx X ne
   refine⟨x,v,rfl,A6,fun c a b y ex G na nb ed ct=>⟨rfl,x,c,a,b,A9q nx X ne ex,nx,?_,⟨⟨v,ed⟩,ct⟩,rfl⟩⟩
   by_cases q1:c=x
   . rw[q1];exact nx
   . rw[D8 q1] at G
     by_cases q2:c=v
     . rw[q2];exact X
     . rw[D8 q2] at G;exact G
 rintro A H1 ⟨d,c,a,b,W,X,G,hd,rfl⟩
 have yk:=W _ _ el
 refine⟨l,rfl,⟨_,SqL.of yk⟩,fun D I=>⟨zs.length,fun i ys O=>i<=zs.length/\ys=(U.take i).map V.str/\O D=some (.lst ys)/\(∃c a b,B8t T CC O d c a b (st i)/\a≠D/\b≠D/\H c=none)/\∀p o,H p=some o ->O p=some o,?_,?_⟩⟩
 . have u:=C9.upd (o:= .lst []) I
   refine⟨bP _,rfl,A6,⟨c,a,b,by rw[R.s0];exact hd.same u,D6 hd.c.ha I,D6 hd.c.hb I,G⟩,fun p o e=>u _ _ (W _ _ e)⟩
 rintro i ys O ⟨hi,rfl,eD,⟨c2,a2,b2,m,xz,xy,B⟩,s⟩
 refine⟨hi,eD,?_⟩
 by_cases g:i<zs.length
 . obtain⟨t,et,lz,ft,ok,ea⟩:=R.go i zs[i] (aY g)
   refine .inr ⟨g,⟨_,V.str zs[i],SqL.of (s _ _ el),by simp[g]⟩,fun x H3 yl=>?_⟩
   obtain⟨rfl,yl⟩:=yl
   have ex:x=V.str zs[i]:=by
     have:=yl _ (SqL.of (s _ _ el))
     simp[g] at this
     exact this.symm
   subst ex
   refine⟨rfl,zs[i],_,rfl,rfl,n1,C6 (by show zs[i].length+2<=1000;lia),fun p np=>?_⟩
   have u:=C9.upd (o:= .lst ((Txt.split zs[i] " ").map V.str)) np
   refine⟨d,c2,a2,b2,st i,p,Txt.split zs[i] " ",t,st (i+1),rfl,m.same u,ok,A6,ft,ea,fun c' a' b' y J yh nw xx=>?_⟩
   have M:=u _ _ eD
   have dD:D≠d:=by
     obtain⟨dd,e⟩:=m.d
     exact A2v eD e (by intro z;cases z)
   have cD:D≠c2:=by
     obtain⟨v,e⟩:=m.c.ins
     exact A2v eD e (by intro z;cases z)
   have r:=J _ _ M dD cD
   have j:=nw D (by rw[M];simp) xz xy
   have yj:(U.take i).map V.str++ [V.str t]=(U.take (i+1)).map V.str:=by
     rw[kS,et,cL]
     rfl
   refine⟨r,by rw[aP,cR];exact A0u (by lia),g,yj,by rw[A6],⟨c',a',b',?_,j.1,j.2,?_⟩,fun q o e=>?_⟩
   . have nn:∀{q o},y q=some o ->q≠D ->upd y D (.lst ((U.take i).map V.str++ [V.str t])) q=some o:=fun e n=>by rw[D8 n];exact e
     obtain⟨⟨dd,e1⟩,⟨⟨v,e2⟩,e3,e4⟩⟩:=yh
     exact⟨⟨dd,nn e1 (A2v e1 r (by intro z;cases z))⟩,⟨⟨v,nn e2 (A2v e2 r (by intro z;cases z))⟩,nn e3 j.1,nn e4 j.2⟩⟩
   . rcases xx with q|q
     . rw[q];exact B
     . cases hq:H c' with
       |none=>rfl
       | some o=>
         have:=u _ _ (s _ _ hq)
         rw[q] at this
         cases this
   . have xw:q≠d:=D6 e X
     have xv:q≠c2:=D6 e B
     have xu:q≠D:=D6 e (W.free I)
     rw[D8 xu]
     exact J _ _ (u _ _ (s _ _ e)) xw xv
 have ei:i=zs.length:=by lia
 subst ei
 refine .inl ⟨⟨_,SqL.of (s _ _ el),by simp⟩,k D O (fun q o e=>s q o e) (W.free I) ?_⟩
 rw[eD, <-R.len,eV]
def D4p{l:List Nat}(b:NumText.AllDigits l)(a:l≠ [])(c:(l.dropWhile ([48]:List Nat).contains).length<=60):B9s (S l)=some ((NumText.digitsVal l:Nat):Int):=by
 unfold B9s
 rw[aC ((A5m l).mpr ⟨a,b⟩),J5q,B2q,J1,aA (by lia)]
 rfl
def B6h(l:List Nat):A2n (S l)=decide (l.head?=some 45):=by
 unfold A2n
 rw[D1q,A8a]
def G3d(l:List Nat):C0d (S l)=(decide (l.head?=some 43)||decide (l.head?=some 45)):=by
 unfold C0d
 rw[D1q,J4u,A8a,A8a]
def B4b{c:Nat}(h:c=43\/c=45):bare (S (c::t))=S t:=by
 unfold bare
 rw[aC]
 . exact A6e (c::t) 1 (cY (bP _))
 rw[G3d]
 rcases h with rfl|rfl<;>simp
def D2v{l:List Nat}(b:l.head?≠some 43)(a:l.head?≠some 45):bare (S l)=S l:=by
 unfold bare
 rw[aA]
 rw[G3d,aI b,aI a]
 exact aB
def G1n{c:Nat}{n:Nat}(a:c=43\/c=45)(d:n<1000):shR (S (c::dig n))=some (if c=45 then -(n:Int) else n):=by
 unfold shR
 have e:=A4m (k:=3) d (by decide)
 rw[B4b a,aC ((A5m _).mpr ⟨B0y n,A4n n⟩),J1,aA (by lia),B6h]
 have b:B1u (S (dig n))=(n:Int):=by
   unfold B1u
   rw[A1h,B3c]
 rw[b]
 rcases a with rfl|rfl<;>rfl
def B1r(a:NumText.AllDigits l){c:Nat}(b:c<48\/57<c):c ∉ l:=fun h=>by
 have:=a c h
 lia
def Sg(c:Nat):Prop:=c=43\/c=45\/c=46\/(48<=c/\c<=57)\/c=100\/c=101\/c=110\/c=111
def A6r(h:NumText.AllDigits l):∀c∈l,Sg c:=fun c a=>by
 have:=h c a
 unfold Sg
 lia
def C2p(a b:Nat)(g:∀c∈v,c≠32):Txt.stripChars (S (List.replicate a 32++v++List.replicate b 32)) (S [32])=S v:=by
 rw[C4e]
 congr 1
 have e:∀(k:Nat) (m:List Nat),(List.replicate k 32++m).dropWhile ([32]:List Nat).contains=m.dropWhile ([32]:List Nat).contains:=fun k m=>by
   induction k with
   |zero=>rfl
   | succ k h=>
     rw[List.replicate_succ,List.cons_append,cV (by decide)]
     exact h
 have st:∀m:List Nat,(∀c∈m,c≠32) ->∀w,m≠ [] ->(m++w).dropWhile ([32]:List Nat).contains=m++w:=fun m i w d=>by
   cases m with
   |nil=>exact absurd rfl d
   | cons c t=>
     rw[List.cons_append,eO (by have:=i c (aH ..);simp[this])]
 by_cases d:v=[]
 . subst d
   rw[cP,e]
   have:(List.replicate b 32).dropWhile ([32]:List Nat).contains=[]:=by
     have:=e b []
     rw[cP] at this
     rw[this]
     rfl
   rw[this]
   rfl
 rw[gQ,e,st v g _ d,List.reverse_append,List.reverse_replicate,e]
 have:=st v.reverse (fun c j=>g c (List.mem_reverse.mp j)) [] (by simpa using d)
 rw[cP] at this
 rw[this,List.reverse_reverse]
def V2g(h:∀c∈l,Sg c):wdZ (S l)=S l:=by
 have b:∀c∈l,c≠32:=fun c a=>by have:=h c a;unfold Sg at this;lia
 have e:=C2p 0 0 b
 rw[List.replicate_zero,kL,cP] at e
 show Txt.lower (Txt.stripChars (S l) " ")=S l
 rw[show(" ":Str)=S [32] by decide+kernel,e,J2t fun c a=>by have:=h c a;unfold Sg at this;lia]
 congr 1
 exact(eZ fun c a=>U4r (by have:=h c a;unfold Sg at this;lia)).trans (List.map_id _)
structure Bd(u d:List Nat)(k:Nat):Prop where
 pp:∃a m b,ptD (S u)=(S a,S m,S b)/\a++b=d/\b.length=k
 ee:101 ∉ u
 dd:NumText.AllDigits d
 nn:d≠ []
 ll:d.length<=9
 hh:∃c t,u=c::t/\((48<=c/\c<=57)\/c=46)
 ss:∀c∈u,Sg c
 kk:k<=9
 zz:u.length<=10
def Bd.one{d:List Nat}(a:NumText.AllDigits d)(b:d≠ [])(e:d.length<=9):Bd d d 0 where
 pp:=⟨d,[],[],by show Txt.partition _ (".":Str)=_;rw[B3r];exact D2m (B1r a (by decide)),cP d,rfl⟩
 ee:=B1r a (by decide)
 dd:=a
 nn:=b
 ll:=e
 hh:=by
   cases d with
   |nil=>exact absurd rfl b
   |cons c t=>exact⟨c,t,rfl,.inl a.head⟩
 ss:=A6r a
 kk:=bP _
 zz:=by lia
def Bd.two{d:List Nat}{i:Nat}(a:NumText.AllDigits d)(b:d≠ [])(g:d.length<=9):Bd (d.take i++46::d.drop i) d (d.drop i).length where
 pp:=⟨d.take i,[46],d.drop i,by show Txt.partition _ (".":Str)=_;rw[B3r];exact D3f fun q=>B1r a (by decide) (cW q),iY i d,rfl⟩
 ee:=fun q=>by
   rcases bO.mp q with q|q
   . exact B1r a (by decide) (cW q)
   . rcases bM.mp q with q|q
     . exact absurd q (by decide)
     . exact B1r a (by decide) (fO q)
 dd:=a
 nn:=b
 ll:=g
 hh:=by
   cases e:d.take i with
   |nil=>exact⟨46,d.drop i,rfl,.inr rfl⟩
   |cons c t=>exact⟨c,t++46::d.drop i,rfl,.inl (a c (cW (by rw[e];exact aH)))⟩
 ss:=fun c q=>by
   rcases bO.mp q with q|q
   . exact A6r a c (cW q)
   . rcases bM.mp q with rfl|q
     . unfold Sg;lia
     . exact A6r a c (fO q)
 kk:=by rw[bZ];lia
 zz:=by rw[aG,bK,cR,bZ];lia
def U7b{k:Nat}(b:Bd u d k):plR (S u)=some (((NumText.digitsVal d:Nat):Int), -(k:Int)):=by
 obtain⟨a,m,c,e,rfl,rfl⟩:=b.pp
 have g:ptE (S u)=(S u,S [],S []):=by
   show Txt.partition _ ("e":Str)=_
   rw[litE]
   exact D2m b.ee
 have h:=b.ll
 unfold plR
 rw[g]
 dsimp only
 rw[aA (by rw[litE];exact fun q=>nomatch (C7r q)),e]
 dsimp only
 rw[A0g,D4p b.dd b.nn (bS (dI _).length_le (by lia)),J1]
 show some (_,_)=some (_,_)
 congr 2
 lia
def U8h{k:Nat}{s:Int}(b:Bd u d k)(h:shR (S e)=some s):plR (S (u++101::e))=some (((NumText.digitsVal d:Nat):Int),s-(k:Int)):=by
 obtain⟨a,m,c,g,rfl,rfl⟩:=b.pp
 have i:ptE (S (u++101::e))=(S u,S [101],S e):=by
   show Txt.partition _ ("e":Str)=_
   rw[litE]
   exact D3f b.ee
 have j:=b.ll
 unfold plR
 rw[i]
 dsimp only
 rw[aC litE.symm,g,h]
 dsimp only
 rw[A0g,D4p b.dd b.nn (bS (dI _).length_le (by lia)),J1]
 rfl
def J8v{n:Nat}(d:n<1000):shR (S (dig n))=some (n:Int):=by
 have b:=A4n n
 have a:(dig n).head?≠some 43/\(dig n).head?≠some 45:=by
   cases e:dig n with
   |nil=>exact⟨(fun h=>nomatch h),(fun h=>nomatch h)⟩
   | cons c t=>
     have:=b c (by rw[e];exact aH)
     exact⟨fun h=>by injection h with h;lia,fun h=>by injection h with h;lia⟩
 unfold shR
 rw[D2v a.1 a.2,aC ((A5m _).mpr ⟨B0y n,b⟩),J1,aA (by have:=A4m (k:=3) d (by decide);lia),B6h,aI a.2]
 show some (B1u (S (dig n)))=_
 unfold B1u
 rw[A1h,B3c]
structure Wd(z:Str):Prop where
 n:z.cps.toList≠ []
 b:∀c∈z.cps.toList,c≠32/\c<128
 l:z.length<=60
def J6x{a t:List Nat}{f p:Int}(b:a=[]\/a=[43]\/a=[45])(m:∃c r,t=c::r/\((48<=c/\c<=57)\/c=46))(n:∀c∈t,Sg c)(B:t.length<=40)(s:plR (S t)=some (f,p))(v:0<=f)(u:f<10^9)(l: -60<=p)(j:p<=60):Wd (S (a++t))/\∃x,RdT (S (a++t)) x:=by
 obtain⟨c,r,rfl,C⟩:=m
 have d:∀c∈a,c=43\/c=45:=by rcases b with rfl|rfl|rfl<;>simp
 have A:a.length<=1:=by rcases b with rfl|rfl|rfl<;>simp
 have i:∀q∈a++c::r,Sg q:=fun q e=>by
   rcases bO.mp e with h|h
   . have:=d q h
     unfold Sg;lia
   . exact n q h
 have ll:(a++c::r).length<=41:=by rw[aG];lia
 have w:=V2g i
 have z:(S (a++c::r)).length<=41:=by rw[J1];exact ll
 have o:bare (S (a++c::r))=S (c::r):=by
   rcases b with rfl|rfl|rfl
   . exact D2v (fun h=>by injection h with h;lia) (fun h=>by injection h with h;lia)
   . exact B4b (.inl rfl)
   . exact B4b (.inr rfl)
 have g:=G4k (S (a++c::r))
 have y:(10:Int)^9<10^60-1:=by decide+kernel
 refine⟨⟨by rw[A1h];intro h;exact(nomatch (fu.mp h).2),fun q e=>by have:=i q e;unfold Sg at this;lia,by lia⟩,⟨.plain,sgZ (S (a++c::r)),f,p⟩,by lia,by rw[w];lia,?_,⟨g.1,g.2,v,by show f<=10^60-1;lia,by show -200<=p;lia,by show p<=200;lia⟩,Int.lt_trans u (by decide+kernel),l,j⟩
 unfold rdR
 rw[w,o,aA,aA,s]
 . show(if -200<=p/\p<=200 then some _ else none)=_
   rw[aC (by lia)]
 . rw[C2m]
   intro h
   injection C7r h with h
   lia
 rw[C3v]
 intro h
 have h:=C7r h
 rcases b with rfl|rfl|rfl
 . injection h with h
   lia
 . injection h with h
   lia
 injection h with h
 lia
abbrev J1j:Stmt:=(top 136)
inductive J7v(vs:List V)(H:Hp)(Q:VK)(_:XK):Prop
 |mk(n:Nat)(_:vs=[.int (n:Int)])(_:n<=300)(_:Q (.int ((10^n:Nat):Int)) H)
def scTen:B9 ["_law_power","_law_found","_law_turn"] ["_law_power"] (A5 J1j):=scK
def J9a(D:Def K Y "_law_ten" ["_law_power"] J1j f fd)(O:Own Y):sI P w K Y Z 1 f fd ["_law_power"] J7v:=by
 refine okY D.F scTen ?_
 rintro _ _ _ _ H _ Q E d _⟨n,rfl,g,k⟩
 refine⟨_,(A2 (psz (i:=1) scTen.nd A4) (A2 (B7f iE rfl (B4e rfl O.range_ (A0 (pv 0) A1)) (A1f (i:=2) scTen.nd rfl (Or.inl rfl)) (A3 (psz (i:=1) scTen.nd (D0 V5 (pv 1) A4)))) (A3 (A7 (pv 1))))),n,rfl,by lia,by lia,D8e (fun i a b=>b=H/\∃v,a=[si (n:Int),si ((10^i:Nat):Int),v]) ⟨rfl,none,rfl⟩ ?_ ?_⟩
 . rintro i a b h ⟨rfl,v,rfl⟩
   have c:∀z:Int,IntMulOk z 10:=fun z=>B1b.ok (.inr ⟨by decide,by decide⟩)
   refine⟨c _,?_⟩
   have e:((10^i:Nat):Int)*10=((10^(i+1):Nat):Int):=by rw[eA];rfl
   exact⟨rfl,si (0+i),by show [si (n:Int),si (((10^i:Nat):Int)*10),si (0+i)]=_;rw[e]⟩
 rintro a b ⟨rfl,v,rfl⟩
 have e:(n:Int).toNat=n:=rfl
 rw[e]
 exact k
end TR
namespace L2
open PySem PySem.Spec PyProof.Rows PySem.W
def V0y(d c:TE):TE:=fun a H Q=>d a H fun x b=>∃z:Str,x= .str z/\z.length<=1000/\if z.length=0 then c a b Q else Q (.str z) b
def G2a(p:PE X a m)(o:PE X (.BoolOp .Or (b::e) pos) l):PE X (.BoolOp .Or (a::b::e) pos) (V0y m l):=by
 intro c s i H Q I h
 refine BoolOp_or (thn (p c s i H _ I h) fun v q g=>?_)
 obtain⟨x,k,j,n,d⟩:=g
 obtain⟨z,rfl,r,d⟩:=d
 obtain⟨t,rfl⟩:=(show∃t,v=Value.str z t from n)
 have u:(2:Int)^63=9223372036854775808:=by decide
 refine PySem.P.truthy_str (by lia) ?_
 by_cases f:z.length=0
 . rw[aC f] at d
   rw[show((z.length:Int) !=0)=false by rw[f];rfl]
   exact o c _ i k Q (j.tok _) d
 rw[aA f] at d
 rw[show((z.length:Int) !=0)=true by simp;lia]
 exact⟨.str z,k,j.tok _,⟨_,rfl⟩,d⟩
end L2
namespace TR
open PySem L2 PySem.W PyProof.Rows
seal PE PS PSs PA PT PW PG PGs PI PO
abbrev C3d:Stmt:=(top 137)
deriving instance DecidableEq for Nm
def J4k{i:Int}{a b c:V}(e:0<=i)(d:i<3):∃x,(x=a\/x=b\/x=c)/\atI [a,b,c] i=some x:=by
 rcases(by lia:i=0\/i=1\/i=2) with rfl|rfl|rfl
 . exact⟨a,.inl rfl,rfl⟩
 . exact⟨b,.inr (.inl rfl),rfl⟩
 exact⟨c,.inr (.inr rfl),rfl⟩
def J7c{i:Int}(h:i=0):atI [a,b] i=some a:=by rw[h];rfl
def J6s{i:Int}(h:i=1):atI [a,b] i=some b:=by rw[h];rfl
def J6y{x:V}(h:x= .str ""\/x= .str "-"\/x= .str "+"):∃l,(l=[]\/l=[43]\/l=[45])/\x= .str (S l):=by
 rcases h with rfl|rfl|rfl
 . exact⟨[],.inl rfl,by rw[G3n]⟩
 . exact⟨[45],.inr (.inr rfl),by rw[D1q]⟩
 exact⟨[43],.inr (.inl rfl),by rw[J4u]⟩
def J9m(h:l=[]\/l=[43]\/l=[45]):Wd (S (l++G1z))/\∃x,RdT (S (l++G1z)) x:=by
 rcases h with rfl|rfl|rfl
 . exact⟨⟨by decide,by decide,by decide+kernel⟩,⟨.end_,0,0,0⟩,by decide+kernel,by decide+kernel,by decide+kernel,⟨by decide,by decide,by decide,by decide+kernel,by decide,by decide⟩,by decide+kernel,by decide,by decide⟩
 . exact⟨⟨by decide,by decide,by decide+kernel⟩,⟨.end_,0,0,0⟩,by decide+kernel,by decide+kernel,by decide+kernel,⟨by decide,by decide,by decide,by decide+kernel,by decide,by decide⟩,by decide+kernel,by decide,by decide⟩
 exact⟨⟨by decide,by decide,by decide+kernel⟩,⟨.end_,1,0,0⟩,by decide+kernel,by decide+kernel,by decide+kernel,⟨by decide,by decide,by decide,by decide+kernel,by decide,by decide⟩,by decide+kernel,by decide,by decide⟩
def none_ok:Wd (S C6d)/\∃x,RdT (S C6d) x:=⟨⟨by decide,by decide,by decide+kernel⟩,⟨.none,0,0,0⟩,by decide+kernel,by decide+kernel,by decide+kernel,⟨by decide,by decide,by decide,by decide+kernel,by decide,by decide⟩,by decide+kernel,by decide,by decide⟩
section
variable{P:Program}{w:World}{K:Frag}{Y:Str ->Option Value}{Z:Heap}
inductive D5c(vs:List V)(H:Hp)(Q:VK)(_:XK):Prop
 |mk(c:Int)(_:vs=[.int c])(_:∀z a,C9 H a ->Wd z ->(∃x,RdT z x) ->Q (.str z) a)
def scLText:B9 ["_law_cell","_law_digits","_law_more","_law_sign","_law_at","_law_point","_law_text_here"] ["_law_cell"] (A5 C3d):=scK
def G2x(D:Def K Y "_law_text" ["_law_cell"] C3d f fd)(v:Def K Y "_law_mixed" ["_law_cell","_law_k"] B4j f1 xw)(o:B0 P w K Y Z (CX1 P w) 1 f1 xw ["_law_cell","_law_k"] B6z)(B:Def K Y "_law_ten" ["_law_power"] J1j f2 xv)(A:B0 P w K Y Z (CX1 P w) 1 f2 xv ["_law_power"] J7v)(O:Own Y):B0 P w K Y Z (CX1 P w) 2 f fd ["_law_cell"] D5c:=by
 refine okZ D.F scLText ?_
 rintro _ _ _ s H _ Q E T R⟨c,rfl,k⟩
 refine⟨_,(A2 (C8 (psz (i:=1) scLText.nd (U8 Z6 (by rfl) O.str_ gH (A0 (D0 Y2 (B7 v o T R (A0 (pv 0) (A0 A4 A1))) (B7 B A T R (A0 (G7 G4 (G8 (A0 A4 (A0 A4 (A0 A4 A1)))) (D0 Y2 (D0 U3 (B7 v o T R (A0 (pv 0) (A0 A4 A1))) A4) A4) (fun _ _=>rfl)) A1))) A1)))) (A2 (C8 (psz (i:=2) scLText.nd (B7 v o T R (A0 (pv 0) (A0 A4 A1))))) (A2 (C8 (psz (i:=3) scLText.nd (G7 G4 (G8 (A0 A9 (A0 A9 (A0 A9 A1)))) (D0 Y2 (pv 2) A4) (fun _ _=>rfl)))) (A2 (C8 (D3 (B5 D5 (D0 Y2 (D0 U3 (pv 2) A4) A4) A4 B8) (A3 (A7 (D0 V1 (pv 3) A9))) C0)) (A2 (C8 (D3 (B5 D5 (D0 Y2 (D0 U3 (pv 2) A4) A4) A4 B8) (A3 (A7 A9)) C0)) (A2 (C8 (psz (i:=4) scLText.nd (D0 Y2 (D0 U3 (pv 2) A4) (D0 V8 (G9 A0m (by rfl) O.len_ PySem.boot_len (A0 (pv 1) A1)) A4)))) (A2 (C8 (psz (i:=5) scLText.nd (G7 G4 (G8 (A0 A9 (A0 (D0 V1 (D0 V1 (Z8 B0x (pv 1) A0q (A0p (pv 4))) A9) (Z8 B0x (pv 1) (A0p (pv 4)) A0q)) A1))) (D0 Y2 (D0 U3 (pv 2) A4) A4) (fun _ _=>rfl)))) (A2 (C8 (psz (i:=6) scLText.nd (D0 V1 (pv 3) (G2a (pv 5) (A3y (pv 1)))))) (A3 (A7 (D0 V1 (pv 6) (G7 G4 (G8 (A0 A9 (A0 A9 (A0 (D0 V1 (D0 V1 A9 (G7 G4 (G8 (A0 A9 (A0 A9 (A0 A9 A1)))) (D0 Y2 (D0 U3 (pv 2) A4) A4) (fun _ _=>rfl))) (U8 Z6 (by rfl) O.str_ gH (A0 (D0 Y2 (D0 U3 (pv 2) A4) A4) A1))) A1)))) (D0 Y2 (D0 U3 (pv 2) A4) A4) (fun _ _=>rfl))))))))))))),?_⟩
 have F:∀m:Int,0<=m % 3/\m % 3<3:=fun m=>⟨eC _ (by decide),cQ _ (by decide)⟩
 have N:3<=sizeLine:=C6 (by decide)
 have yh:(2:Nat)^20=1048576:=by decide
 have dd:∀j:Int,0<j ->j<100000 ->(0:Int)<j/\j.natAbs.log2<9000:=fun j h0 h1=>⟨h0,bY (Z3 (k:=20) (by lia) (by decide)) (by decide)⟩
 refine⟨fun d z=>∃n:Nat,n<10^9/\C9 H z/\d=[some (.int c),some (.str (S (dig n))),none,none,none,none,none],?_,?_⟩
 . refine⟨c,1,rfl,by decide,by decide,fun m1 a0 a1=>⟨N,fun p C=>⟨c,2,rfl,by decide,by decide,fun m2 b0 b1=>?_⟩⟩⟩
   obtain⟨x,y,ex⟩:=J4k (a:= .int 1) (b:= .int 3) (c:= .int 9) (F (m2/9)).1 (F (m2/9)).2
   obtain⟨t,ht,rfl⟩:∃t:Nat,t<=9/\x= .int (t:Int):=by
     rcases y with rfl|rfl|rfl
     . exact⟨1,by decide,rfl⟩
     . exact⟨3,by decide,rfl⟩
     . exact⟨9,by decide,rfl⟩
   have pp:(0:Int)<((10^t:Nat):Int):=Int.natCast_pos.mpr (fJ (by decide))
   have pl:10^t<=10^9:=bH (by decide) ht
   have n0:=eC m1 (iR pp)
   have n1:=cQ m1 pp
   obtain⟨n,en⟩:=aV n0
   have hn:n<10^9:=by lia
   refine⟨dd 9 (by decide) (by decide),(by decide:(0:Int)<3),rfl,rfl,SqL.of A6,ex,t,rfl,by lia,pp,_,rfl,?_,n,hn,C9.upd C,?_⟩
   . rw[en]
     exact bY (Z3 (k:=40) (bY (show(n:Int).natAbs<10^9 by lia) (by decide)) (by decide)) (by decide)
   . rw[<-B4n, <-en]
     rfl
 rintro d H1 ⟨n,hn,s1,rfl⟩
 have dl:=A4m (k:=9) hn (by decide)
 have dn:=B0y n
 have da:=A4n n
 refine⟨fun d z=>∃m:Int,0<=m/\z=H1/\d=[some (.int c),some (.str (S (dig n))),some (.int m),none,none,none,none],⟨c,3,rfl,by decide,by decide,fun m a0 a1=>⟨m,a0,rfl,rfl⟩⟩,?_⟩
 rintro d H2 ⟨m,m0,rfl,rfl⟩
 refine⟨fun d z=>∃l,(l=[]\/l=[43]\/l=[45])/\C9 H2 z/\d=[some (.int c),some (.str (S (dig n))),some (.int m),some (.str (S l)),none,none,none],?_,?_⟩
 . refine⟨N,fun p C=>⟨(by decide:(0:Int)<3),?_⟩⟩
   obtain⟨x,y,ex⟩:=J4k (a:= .str "") (b:= .str "-") (c:= .str "+") (F m).1 (F m).2
   obtain⟨l,J,rfl⟩:=J6y y
   exact⟨rfl,rfl,SqL.of A6,ex,l,J,C9.upd C,rfl⟩
 rintro d H3 ⟨l,J,s3,rfl⟩
 have I:=s1.trans s3
 have ll:l.length<=1:=by rcases J with rfl|rfl|rfl<;>decide
 refine⟨fun d z=>z=H3/\d=[some (.int c),some (.str (S (dig n))),some (.int m),some (.str (S l)),none,none,none],?_,?_⟩
 . refine⟨dd 3 (by decide) (by decide),(by decide:(0:Int)<9),rfl,rfl,G5 (fun h=>?_) (fun h=>⟨rfl,rfl⟩)⟩
   have e:=J9m J
   refine⟨_,_,rfl,rfl,C6 ?_,?_⟩
   . rw[J1,C2m,J1]
     show l.length+3<=1000
     lia
   . rw[C2m,A0g]
     exact k _ _ I e.1 e.2
 rintro d H4 ⟨rfl,rfl⟩
 refine⟨fun d z=>z=H4/\d=[some (.int c),some (.str (S (dig n))),some (.int m),some (.str (S l)),none,none,none],?_,?_⟩
 . refine⟨dd 3 (by decide) (by decide),(by decide:(0:Int)<9),rfl,rfl,G5 (fun h=>?_) (fun h=>⟨rfl,rfl⟩)⟩
   rw[C3v]
   exact k _ _ I none_ok.1 none_ok.2
 rintro d H5 ⟨rfl,rfl⟩
 refine⟨fun d z=>∃i:Nat,i<=(dig n).length/\z=H5/\d=[some (.int c),some (.str (S (dig n))),some (.int m),some (.str (S l)),some (.int (i:Int)),none,none],?_,?_⟩
 . have p1:(0:Int)<((S (dig n)).length:Int)+1:=by lia
   have q0:=eC (m/27) (iR p1)
   have q1:=cQ (m/27) p1
   obtain⟨i,ei⟩:=aV q0
   refine⟨dd 27 (by decide) (by decide),_,rfl,C6 (by rw[J1];lia),p1,i,?_,rfl,?_⟩
   . rw[J1] at q1 ei
     lia
   . show [some (V.int c),some (V.str (S (dig n))),some (V.int m),some (V.str (S l)),some (V.int (m/27 % (((S (dig n)).length:Int)+1))),none,none]=_
     rw[ei]
 rintro d H6 ⟨i,hi,rfl,rfl⟩
 refine⟨fun d z=>∃q:Str,C9 H6 z/\q.length<=10/\(∃u kk,Bd u (dig n) kk/\(if q.length=0 then S (dig n) else q)=S u)/\d=[some (.int c),some (.str (S (dig n))),some (.int m),some (.str (S l)),some (.int (i:Int)),some (.str q),none],?_,?_⟩
 . have X:=D9w (dig n) i hi
   have c2:=A6e (dig n) i hi
   have b2:=Bd.two (i:=i) da dn dl
   have xu:(S ((dig n).take i++ [46]++(dig n).drop i)).length<=10:=by
     rw[J1,aG,aG,cR,bZ]
     show _+1+_<=10
     lia
   refine⟨_,rfl,_,rfl,by rw[X,J1];exact C6 (by rw[cR];lia),_,_,rfl,rfl,by rw[X,J1];exact C6 (by rw[cR,show(".":Str).length=1 by decide+kernel];lia),_,rfl,_,rfl,by rw[c2,J1];exact C6 (by rw[bZ];lia),_,_,rfl,rfl,?_,C6 (by show 2<=1000;decide),fun p C=>?_⟩
   . rw[X,c2,B3r,A0g,J1,J1]
     exact C6 (by rw[aG,cR,bZ];show _+1+_<=1000;lia)
   rw[X,c2,B3r,A0g,A0g]
   refine⟨dd 270 (by decide) (by decide),(by decide:(0:Int)<2),?_⟩
   rcases(by lia:m/270 % 2=0\/m/270 % 2=1) with e|e
   . exact⟨rfl,rfl,SqL.of A6,J7c e,"",C9.upd C,by decide+kernel,⟨dig n,0,Bd.one da dn dl,by rw[aC (by decide+kernel)]⟩,rfl⟩
   . refine⟨rfl,rfl,SqL.of A6,J6s e,_,C9.upd C,xu,⟨_,_,b2,?_⟩,rfl⟩
     rw[aA (by rw[J1,aG,aG];show¬_+1+_=0;lia),gQ]
     rfl
 rintro d H7 ⟨q,s7,lq,⟨u,kk,G,W⟩,rfl⟩
 have uz:=G.zz
 refine⟨fun d z=>z=H7/\d=[some (.int c),some (.str (S (dig n))),some (.int m),some (.str (S l)),some (.int (i:Int)),some (.str q),some (.str (S (l++u)))],?_,?_⟩
 . refine⟨_,rfl,by lia,?_⟩
   by_cases hq:q.length=0
   . rw[aC hq] at W ⊢
     rw[W]
     exact⟨_,_,rfl,rfl,C6 (by rw[J1,J1];lia),rfl,by rw[A0g];rfl⟩
   . rw[aA hq] at W ⊢
     rw[W]
     exact⟨_,_,rfl,rfl,C6 (by rw[J1,J1];lia),rfl,by rw[A0g];rfl⟩
 rintro d H8 ⟨rfl,rfl⟩
 have sH:=I.trans s7
 have U:(0:Int)<=((NumText.digitsVal (dig n):Nat):Int)/\((NumText.digitsVal (dig n):Nat):Int)<10^9:=by
   rw[B3c]
   have:(10:Int)^9=((10^9:Nat):Int):=by decide
   lia
 have xz:=G.kk
 have M:=J6x J G.hh G.ss (by lia) (U7b G) U.1 U.2 (by lia) (by lia)
 refine⟨N,fun p C=>⟨dd 540 (by decide) (by decide),(by decide:(0:Int)<3),?_⟩⟩
 obtain⟨x,y,ex⟩:=J4k (a:= .str "") (b:= .str "+") (c:= .str "-") (F (m/540)).1 (F (m/540)).2
 obtain⟨e,he,rfl⟩:=J6y (x:=x) (y.elim .inl fun h=> .inr (h.elim .inr .inl))
 have el:e.length<=1:=by rcases he with rfl|rfl|rfl<;>decide
 have g0:0<=m/1620 % 30:=eC _ (by decide)
 have g1:m/1620 % 30<30:=cQ _ (by decide)
 obtain⟨g,eg⟩:=aV g0
 have gl:=A4m (n:=g) (k:=2) (by lia) (by decide)
 refine⟨rfl,rfl,SqL.of A6,ex,_,_,rfl,rfl,C6 (by rw[J1,show("e":Str).length=1 by decide+kernel];lia),dd 1620 (by decide) (by decide),(by decide:(0:Int)<30),_,rfl,?_,?_⟩
 . rw[eg]
   exact bY (Z3 (k:=40) (bY (show(g:Int).natAbs<30 by lia) (by decide)) (by decide)) (by decide)
 rw[eg,show(toString ((g:Nat):Int):Str)=S (dig g) from B4n g,litE,A0g]
 refine⟨_,_,rfl,rfl,C6 (by rw[J1,J1];rw[aG];show 1+_+_<=1000;lia),N,fun p2 L=>⟨dd 48600 (by decide) (by decide),(by decide:(0:Int)<3),?_⟩⟩
 rw[A0g]
 obtain⟨x,y,ex⟩:=J4k (a:= .str "") (b:= .str "") (c:= .str (S ([101]++e++dig g))) (F (m/48600)).1 (F (m/48600)).2
 refine⟨rfl,rfl,SqL.of A6,ex,?_⟩
 rcases(y.elim .inl id:x= .str ""\/x= .str (S ([101]++e++dig g))) with rfl|rfl
 . refine⟨_,_,rfl,rfl,C6 (by rw[J1,aG,show("":Str).length=0 by decide+kernel];lia),?_⟩
   rw[G3n,A0g,cP]
   exact k _ _ (sH.trans ((C9.upd C).trans (C9.upd L))) M.1 M.2
 obtain⟨s,es,xy,xx⟩:∃s:Int,shR (S (e++dig g))=some s/\ -30<=s/\s<=30:=by
   rcases he with rfl|rfl|rfl
   . exact⟨g,J8v (by lia),by lia,by lia⟩
   . exact⟨_,G1n (.inl rfl) (by lia),by rw[aA (by decide)];lia,by rw[aA (by decide)];lia⟩
   . exact⟨_,G1n (.inr rfl) (by lia),by rw[aC rfl];lia,by rw[aC rfl];lia⟩
 have hh:∃c r,u++101::(e++dig g)=c::r/\((48<=c/\c<=57)\/c=46):=by
   obtain⟨c,r,rfl,hc⟩:=G.hh
   exact⟨c,r++101::(e++dig g),rfl,hc⟩
 have hs :∀c∈u++101::(e++dig g),Sg c:=fun c hc=>by
   rcases bO.mp hc with h|h
   . exact G.ss c h
   . rcases bM.mp h with rfl|h
     . unfold Sg;lia
     . rcases bO.mp h with h|h
       . rcases he with rfl|rfl|rfl
         . cases h
         . rw[bE.mp h];unfold Sg;lia
         . rw[bE.mp h];unfold Sg;lia
       . exact A6r (A4n g) c h
 have r:=J6x J hh hs (by rw[aG,bK,aG];lia) (U8h G es) U.1 U.2 (by lia) (by lia)
 have eq:(l++u)++([101]++e++dig g)=l++(u++101::(e++dig g)):=by simp
 refine⟨_,_,rfl,rfl,C6 (by rw[J1,J1,aG,aG,aG];show _+(1+_+_)<=1000;lia),?_⟩
 rw[A0g,eq]
 exact k _ _ (sH.trans ((C9.upd C).trans (C9.upd L))) r.1 r.2
end
def J1v{l:List Nat}(a:NumText.AllDigits l)(b:l≠ [])(f:l.length<=4):A5k (S l)=some ((NumText.digitsVal l:Nat):Int):=by
 have d:l.head?≠some 45:=by
   cases l with
   |nil=>exact fun h=>nomatch h
   | cons c t=>
     have:=a c aH
     exact fun h=>by injection h with h;lia
 have e:A2n (S l)=false:=by rw[B6h];exact aI d
 unfold A5k A5w
 rw[e,aA aB,aC ((A5m _).mpr ⟨b,a⟩),J1,aA (by lia),aA aB]
 rfl
def J5j{l:List Nat}(b:NumText.AllDigits l)(a:l≠ [])(d:l.length<=4):A5k (S (45::l))=some (-((NumText.digitsVal l:Nat):Int)):=by
 have e:A2n (S (45::l))=true:=by rw[B6h];rfl
 have c:B5v (S (45::l)) (some 1) none=S l:=A6e (45::l) 1 (cY (bP _))
 unfold A5k A5w
 rw[e,aC rfl,c,aC ((A5m _).mpr ⟨a,b⟩),J1,aA (by lia),aC rfl]
 rfl
def J1t(l:List Nat)(n:Nat):Txt.zfill (S (45::l)) (n:Int)=S (45::(List.replicate (n-(l.length+1)) 48++l)):=by
 unfold Txt.zfill
 rw[J1,bK]
 split
 . rw[show n-(l.length+1)=0 by lia]
   rfl
 have e:zfilled (S (45::l)) ((n:Int).toNat-(l.length+1))=Builtin.Str.strSub (S (45::l)) 0 1++Builtin.Str.padded (Builtin.Str.strSub (S (45::l)) 1 (S (45::l)).length) ((n:Int).toNat-(l.length+1)) 0 48:=rfl
 have a:∀k,Builtin.Str.padded (S l) k 0 48=S (List.replicate k 48++l):=fun k=>by unfold Builtin.Str.padded S;simp
 rw[e,B7n,B7n,J1,bK,show List.drop 1 (List.take (l.length+1) (45::l))=l by rw[List.take_succ_cons,eV];rfl,a,A0g]
 rfl
def J2m(a b:String):Str.ofString (a++b)=Str.ofString a++Str.ofString b:=by
 rw[Str.ofString_eq_byList]
 unfold Str.ofStringByList
 rw[String.toList_append,cL]
 exact(A0g _ _).symm
def U0p{n:Nat}(h:0<n):Str.ofString (toString (-(n:Int)))=S (45::dig n):=by
 rw[toString_neg (by lia),show(0:Int) - -(n:Int)=(n:Int) by lia,J2m,B4n,D1q,A0g]
 rfl
structure CtT(y:Str)(k:Int):Prop where
 w:Wd y
 r:A5k y=some k
 i:PySem.intText? y=some k
def U0a{l:List Nat}(b:NumText.AllDigits l)(a:l≠ [])(d:l.length<=4):CtT (S l) ((NumText.digitsVal l:Nat):Int):=
 ⟨⟨a,fun c e=>by have:=b c e;lia,by rw[J1];lia⟩,J1v b a d,PySem.intText_digits (x:=S l) b a (by rw[J1];lia)⟩
def U0f{l:List Nat}(a:NumText.AllDigits l)(d:l≠ [])(e:l.length<=4):CtT (S (45::l)) (-((NumText.digitsVal l:Nat):Int)):=
 ⟨⟨(fun h=>nomatch h),fun c b=>by rcases bM.mp b with rfl|b;decide;have:=a c b;lia,by rw[J1,bK];lia⟩,J5j a d e,PySem.intText_neg (x:=S (45::l)) rfl a d (by rw[J1,bK];lia)⟩
def D2t{k:Nat}(a:NumText.AllDigits l):NumText.AllDigits (List.replicate k 48++l):=fun c b=>by
 rcases bO.mp b with h|h
 . obtain⟨_,rfl⟩:=List.mem_replicate.mp h
   decide
 . exact a c h
def B6p{k:Int}{n:Nat}(j: -99<=k)(i:k<=99)(f:n<=4):CtT (Txt.zfill (toString k) (n:Int)) k:=by
 by_cases d:0<=k
 . obtain⟨m,rfl⟩:=aV d
   have dl:=A4m (n:=m) (k:=2) (by lia) (by decide)
   have b:=A4n m
   have hh:∀c,c<48 ->(dig m).head?≠some c:=fun c g=>by
     cases e:dig m with
     |nil=>exact fun h=>nomatch h
     | cons a t=>
       have:=b a (by rw[e];exact aH)
       exact fun h=>by injection h with h;lia
   have:=U0a (l:=List.replicate (n-(dig m).length) 48++dig m) (D2t b) (fun h=>B0y m (fu.mp h).2) (by rw[aG,cZ];lia)
   rw[A9s,B3c, <-D3b (dig m) n (hh 43 (by decide)) (hh 45 (by decide)), <-B4n] at this
   exact this
 obtain⟨m,rfl⟩:∃m:Nat,k= -(m:Int):=⟨(-k).toNat,by lia⟩
 have dl:=A4m (n:=m) (k:=2) (by lia) (by decide)
 have b:=A4n m
 have:=U0f (l:=List.replicate (n-((dig m).length+1)) 48++dig m) (D2t b) (fun h=>B0y m (fu.mp h).2) (by rw[aG,cZ];lia)
 rw[A9s,B3c, <-J1t, <-U0p (by lia)] at this
 exact this
def D4r{k:Int}(b: -99<=k)(a:k<=99):CtT (toString k:Str) k:=by
 have:=B6p (n:=0) b a (by decide)
 unfold Txt.zfill at this
 rw[aC (eQ.mpr (bP _))] at this
 exact this
abbrev B6a:Stmt:=(top 138)
abbrev B0b:Stmt:=(top 139)
inductive Ln where
 |room (y:Str) (k:Int)
 |way (z:Str)
 |bounds (y1 y2:Str) (k1 k2:Int)
 |trap (ws:List Str)
 |flags
 |clear
 |cnt (nm:Str) (p:Str×Nm) (y:Str) (k:Int)
 |op (nm:Str) (ps:List (Str×Nm))
def Ln.ws:Ln ->List Str
 | .room y _=>["room",y]
 | .way z=>["way",z]
 | .bounds b a _ _=>["bounds",b,a]
 | .trap ws=>"trap"::ws
 | .flags=>["flags"]
 | .clear=>["clear"]
 | .cnt nm p y _=>[nm,p.1,y]
 | .op nm ps=>nm::ps.map (·.1)
def C4u:List Str:=["down","up","floor","ceiling","half up","half down","half even","five up"]
def B1e:List Str:=["root","to whole","trimmed","next up","next down"]
def C5a:List Str:=["plus","minus","times","over","whole over","rest","same power","lesser","greater","compare"]
def Ln.Ok:Ln ->Prop
 | .room y k=>CtT y k
 | .way z=>z∈C4u
 | .bounds b a k1 k2=>CtT b k1/\CtT a k2
 | .trap ws=>(∀z∈ws,z∈A1d)/\ws.length<=8
 | .flags=>True
 | .clear=>True
 | .cnt nm p y k=>(nm="power"\/nm="scaled")/\Wd p.1/\RdT p.1 p.2/\CtT y k/\ -100<=k/\k<=100/\(nm="power" -> -20<=k/\k<=20)
 | .op nm ps=>(∀p∈ps,Wd p.1/\RdT p.1 p.2)/\((nm∈B1e/\ps.length=1)\/(nm∈C5a/\ps.length=2)\/(nm="fused"/\ps.length=3))
def strs_of{P:Str ->Prop}:∀{ys:List V},(∀y∈ys,∃z,P z/\y= .str z) ->∃zs:List Str,ys=zs.map V.str/\∀z∈zs,P z
 | [],_=>⟨[],rfl,fun z c=>nomatch c⟩
 | y::ys,h=>by
   obtain⟨z,c,rfl⟩:=h y aH
   obtain⟨zs,rfl,b⟩:=strs_of fun y d=>h y (aJ _ d)
   exact⟨z::zs,rfl,fun a f=>(bM.mp f).elim (fun e=>e▸c) (b a)⟩
def dj{j:Int}(b:0<j)(c:j<100000):(0:Int)<j/\j.natAbs.log2<9000:=by
 have a:(2:Nat)^20=1048576:=by decide
 exact⟨b,bY (Z3 (k:=20) (by lia) (by decide)) (by decide)⟩
section
variable{P:Program}{w:World}{K:Frag}{Y:Str ->Option Value}{Z:Heap}
inductive C8b(vs:List V)(H:Hp)(Q:VK)(_:XK):Prop
 |mk(c:Int)(_:vs=[.int c])(_:∀l (zs:List Str) a,C9 H a ->H l=none ->a l=some (.lst (zs.map V.str)) ->zs.length<=8 ->(∀z∈zs,z∈A1d) ->Q (.ref l) a)
def scLNames:B9 ["_law_cell","_law_some","_law_names_here"] ["_law_cell"] (A5 B6a):=scK
def D8b(D:Def K Y "_law_names" ["_law_cell"] B6a f fd)(O:Own Y):B0 P w K Y Z (CX1 P w) 1 f fd ["_law_cell"] C8b:=by
 refine okZ D.F scLNames ?_
 rintro _ _ _ _ H _ Q E hr hx⟨c,rfl,k⟩
 refine⟨_,(A2 (C8 (D4 (i:=1) scLNames.nd rfl (Or.inr rfl) (G8 (A0 A9 (A0 A9 (A0 A9 (A0 A9 (A0 A9 (A0 A9 (A0 A9 A1)))))))))) (A2 (C8 (C6g (i:=2) (N:=["_law_k"]) (F:=["_law_some","_law_cell"]) (js:=[1,0]) (U1.of2 ⟨rfl,by decide+kernel,by decide+kernel,by decide+kernel,by decide+kernel⟩ (by rfl) (by rfl) ⟨_,by rfl⟩ (by rfl) (by rfl) (by rfl) ⟨_,by rfl⟩ (by rfl) (by rfl)) (.inl hr.hd) rfl (B4e rfl O.range_ (A0 A4 A1)) rfl (fun C s₀ H₀ ex pn h=>A1f (i:=0) (by decide+kernel:(["_law_k","_law_some","_law_cell"]:List Str).Nodup) rfl (Or.inl rfl)) (fun C s₀ H₀ ex pn h=>(B5 D5 (D0 Y2 (D0 J8g (pv 2) (pv 0)) A4) A4 B8)) (fun C s₀ H₀ ex pn h=>(G7 (A5z (K:=K) rfl) (pv 1) (pv 0) (fun _ _=>rfl))) scLNames.nd rfl (Or.inl rfl))) (A3 (A7 (D0 A8n (U1b (pv 2) (A5c A2k A4)) (Z8 A3n (pv 2) A0q (A0p (D0 Y2 (pv 0) A4)))))))),fun d m=>∃a,C9 H m/\m a=some (.lst C2d)/\d=[some (.int c),some (.ref a),none],⟨C6 (by decide),fun a U=>⟨a,C9.upd U,A6,rfl⟩⟩,?_⟩
 rintro d H1 ⟨a,M,ea,rfl⟩
 refine⟨fun d m=>∃(b:Addr) (zs:List Str),C9 H1 m/\m b=some (.lst (zs.map V.str))/\zs.length<=7/\(∀z∈zs,z∈A1d)/\d=[some (.int c),some (.ref a),some (.ref b)],?_,?_⟩
 . refine⟨7,rfl,by decide,by decide,C6z (J:=Itr 0 7) (n:=7) (fun i=>decide (c/2^i % 3=1)) (fun i y _=>∃z,z∈A1d/\y= .str z) (by decide) (fun _ _ _ _ _ _ h _ _=>h) (fun i t Qy Qn hi g s hn=>⟨hi,fun x H3 L=>?_⟩) (fun t g=>aO _) (fun D t ys g nD eD B hR=>?_)⟩
   . obtain⟨rfl,rfl⟩:=L
     obtain⟨v,hv,X⟩:=ixv (xs:=C2d) (i:=(0+i:Int)) (by lia) (by show(0+i:Int)<7;lia)
     obtain⟨z,l,rfl⟩:=eK.mp hv
     refine⟨by show(0:Int)<=0+i;lia,(by decide:(0:Int)<3),rfl,rfl,?_⟩
     have e:(0+(i:Int)).toNat=i:=by lia
     show if decide (V.int (c/2^(0+(i:Int)).toNat % 3)=V.int 1)=true then _ else _
     rw[e]
     by_cases h:c/2^i % 3=1
     . refine Y8 (aM V.int h) ⟨rfl,rfl,SqL.of (g _ _ ea),X,s (aT h) _ _ (C9.refl _) ⟨z,l,rfl⟩⟩
     . exact Y0 (fun q=>h (V.int.inj q)) (hn (aI h) _ (C9.refl _))
   . obtain⟨zs,rfl,l⟩:=strs_of (P:=fun z=>z∈A1d) (ys:=ys) fun y s=>by
       obtain⟨j,hj,e⟩:=List.getElem_of_mem s
       exact hR j _ y (aY (by lia)) (by rw[aY hj,e])
     refine⟨D,zs,g,eD,?_,l,rfl⟩
     rw[aP] at B
     rw[B]
     exact bS (gI _ _) (by simp)
 rintro d t ⟨b,zs,s2,I,lz,l,rfl⟩
 refine⟨rfl,b,_,rfl,SqL.of I,fun p T=>?_⟩
 have u:=C9.upd (o:= .lst (zs.map V.str).reverse) T
 refine⟨(by decide:(0:Int)<2),_,rfl,b,_,rfl,SqL.of (u _ _ I),fun q R=>?_⟩
 have W:0<=c % 2:=eC _ (by decide)
 have m1:c % 2<2:=cQ _ (by decide)
 obtain⟨j,ej⟩:=aV W
 have G:A3v (zs.map V.str) none (some (c % 2))=(zs.take j).map V.str:=by rw[ej,B2s,List.map_take]
 have tl:(zs.take j).length<=1:=by rw[cR];lia
 have u2:=C9.upd (o:= .lst (A3v (zs.map V.str) none (some (c % 2)))) R
 refine⟨p,q,_,_,rfl,rfl,u2 _ _ A6,A6,C6 ?_,fun r A=>?_⟩
 . rw[G,fi,aP,aP]
   lia
 have g:=M.trans (s2.trans (u.trans u2))
 refine k r (zs.reverse++zs.take j) _ (g.trans (C9.upd A)) (g.free A) ?_ ?_ fun z h=>?_
 . rw[A6,G,cL,List.map_reverse]
 . rw[aG,fi]
   lia
 rcases bO.mp h with h|h
 . exact l z (List.mem_reverse.mp h)
 exact l z (cW h)
inductive C4z(vs:List V)(H:Hp)(Q:VK)(_:XK):Prop
 |mk(c:Int)(_:vs=[.int c])(_:0<=c)(_:∀l (b:Ln) a,C9 H a ->H l=none ->a l=some (.lst (b.ws.map V.str)) ->b.Ok ->Q (.ref l) a)
def scLSetting:B9 ["_law_cell","_law_ways","_law_way"] ["_law_cell"] (A5 B0b):=scK
def C7n(D:Def K Y "_law_setting" ["_law_cell"] B0b f fd)(g:Def K Y "_law_names" ["_law_cell"] B6a f1 I)(d:B0 P w K Y Z (CX1 P w) 1 f1 I ["_law_cell"] C8b)(O:Own Y):B0 P w K Y Z (CX1 P w) 2 f fd ["_law_cell"] C4z:=by
 refine okZ D.F scLSetting ?_
 rintro _ _ _ _ H _ Q E hr X⟨c,rfl,c0,k⟩
 refine⟨_,(A2 (C8 (psz (i:=1) scLSetting.nd (G8 (A0 A9 (A0 A9 (A0 A9 (A0 A9 (A0 A9 (A0 A9 (A0 A9 (A0 A9 A1))))))))))) (A2 (C8 (psz (i:=2) scLSetting.nd (D0 Y2 (pv 0) A4))) (A2 (C8 (D3 (B5 D5 (pv 2) A4 B8) (A3 (A7 (G8 (A0 A9 (A0 (A1x PySem.F.plainAttrs_str PySem.F.slot_str_zfill PySem.F.type_str_zfill B2g (U8 Z6 (by rfl) O.str_ gH (A0 (D0 Y2 (D0 U3 (pv 0) A4) A4) A1)) (A0 (D0 V8 A4 (D0 Y2 (D0 U3 (pv 0) A4) A4)) A1)) A1))))) C0)) (A2 (C8 (D3 (B5 D5 (pv 2) A4 B8) (A3 (A7 (G8 (A0 A9 (A0 (G7 G4 (pv 1) (D0 Y2 (D0 U3 (pv 0) A4) A4) (fun _ _=>rfl)) A1))))) C0)) (A2 (C8 (D3 (B5 D5 (pv 2) A4 B8) (A3 (A7 (G8 (A0 A9 (A0 (U8 Z6 (by rfl) O.str_ gH (A0 (D0 Y4 A4 (D0 Y2 (D0 U3 (pv 0) A4) A4)) A1)) (A0 (A1x PySem.F.plainAttrs_str PySem.F.slot_str_zfill PySem.F.type_str_zfill B2g (U8 Z6 (by rfl) O.str_ gH (A0 (D0 Y2 (D0 U3 (pv 0) A4) A4) A1)) (A0 (D0 V8 A4 (D0 Y2 (D0 U3 (pv 0) A4) A4)) A1)) A1)))))) C0)) (A2 (C8 (D3 (B5 D5 (pv 2) A4 B8) (A3 (A7 (D0 A8n (G8 (A0 A9 A1)) (B7 g d hr X (A0 (D0 U3 (pv 0) A4) A1))))) C0)) (A3 (A7 (G7 G4 (G8 (A0 (G8 (A0 A9 A1)) (A0 (G8 (A0 A9 A1)) A1))) (D0 Y4 (pv 2) A4) (fun _ _=>rfl)))))))))),?_⟩
 have F:∀z:Int, -99<=z ->z<=99 ->z.natAbs.log2<1920:=fun z R h1=>bY (Z3 (k:=7) (by lia) (by decide)) (by decide)
 have x:∀(z:Int) {n:Int},0<n ->0<=z % n/\z % n<n:=fun z n h=>⟨eC _ (iR h),cQ _ h⟩
 have y:∀z:Int,0<=z ->z<=4 ->PadOk z=true:=fun z R h1=>by
   obtain⟨n,rfl⟩:=aV R
   rcases(by lia:n=0\/n=1\/n=2\/n=3\/n=4) with rfl|rfl|rfl|rfl|rfl<;>decide+kernel
 refine⟨fun b s=>∃a,C9 H s/\s a=some (.lst (C4u.map V.str))/\b=[some (.int c),some (.ref a),none],⟨C6 (by decide),fun a T=>⟨a,C9.upd T,A6,rfl⟩⟩,?_⟩
 rintro b H1 ⟨a,t,ea,rfl⟩
 have m6:=x c (n:=6) (by decide)
 refine⟨fun b s=>s=H1/\b=[some (.int c),some (.ref a),some (.int (c % 6))],⟨(by decide:(0:Int)<6),rfl,rfl⟩,?_⟩
 rintro b H2 ⟨rfl,rfl⟩
 refine⟨fun b s=>s=H2/\c % 6≠0/\b=[some (.int c),some (.ref a),some (.int (c % 6))],?_,?_⟩
 . refine⟨rfl,rfl,G5 (fun h=>?_) (fun h=>⟨rfl,fun z=>h (aM V.int z),rfl⟩)⟩
   have a1:=x (c/6) (n:=26) (by decide)
   have a2:=x (c/156) (n:=4) (by decide)
   obtain⟨j,J⟩:=aV (show 0<=1+c/156 % 4 by lia)
   refine⟨dj (by decide) (by decide),(by decide:(0:Int)<26),_,rfl,F _ (by lia) (by lia),rfl,dj (by decide) (by decide),(by decide:(0:Int)<4),_,_,rfl,rfl,y _ (by lia) (by lia),C6 (by show 2<=1000;decide),fun p m=>?_⟩
   refine k p (.room (Txt.zfill (toString (c/6 % 26)) (1+c/156 % 4)) (c/6 % 26)) _ (t.trans (C9.upd m)) (t.free m) A6 ?_
   rw[J]
   exact B6p (by lia) (by lia) (by lia)
 rintro b H3 ⟨rfl,n0,rfl⟩
 refine⟨fun b s=>s=H3/\c % 6≠1/\b=[some (.int c),some (.ref a),some (.int (c % 6))],?_,?_⟩
 . refine⟨rfl,rfl,G5 (fun h=>?_) (fun h=>⟨rfl,fun z=>h (aM V.int z),rfl⟩)⟩
   obtain⟨v,hv,W⟩:=ixv (xs:=C4u.map V.str) (i:=c/6 % 8) (x _ (by decide)).1 (by show c/6 % 8<8;exact(x _ (by decide)).2)
   obtain⟨z,G,rfl⟩:=eK.mp hv
   exact⟨dj (by decide) (by decide),(by decide:(0:Int)<8),rfl,rfl,SqL.of ea,W,C6 (by show 2<=1000;decide),fun p m=>k p (.way z) _ (t.trans (C9.upd m)) (t.free m) A6 G⟩
 rintro b H4 ⟨rfl,n1,rfl⟩
 refine⟨fun b s=>s=H4/\c % 6≠2/\b=[some (.int c),some (.ref a),some (.int (c % 6))],?_,?_⟩
 . refine⟨rfl,rfl,G5 (fun h=>?_) (fun h=>⟨rfl,fun z=>h (aM V.int z),rfl⟩)⟩
   have a1:=x (c/6) (n:=62) (by decide)
   have a2:=x (c/372) (n:=62) (by decide)
   have a3:=x (c/23064) (n:=3) (by decide)
   obtain⟨j,J⟩:=aV (show 0<=1+c/23064 % 3 by lia)
   refine⟨dj (by decide) (by decide),(by decide:(0:Int)<62),_,rfl,F _ (by lia) (by lia),dj (by decide) (by decide),(by decide:(0:Int)<62),_,rfl,F _ (by lia) (by lia),rfl,dj (by decide) (by decide),(by decide:(0:Int)<3),_,_,rfl,rfl,y _ (by lia) (by lia),C6 (by show 3<=1000;decide),fun p m=>?_⟩
   refine k p (.bounds (toString (0-c/6 % 62)) (Txt.zfill (toString (c/372 % 62)) (1+c/23064 % 3)) (0-c/6 % 62) (c/372 % 62)) _ (t.trans (C9.upd m)) (t.free m) A6 ⟨D4r (by lia) (by lia),?_⟩
   rw[J]
   exact B6p (by lia) (by lia) (by lia)
 rintro b H5 ⟨rfl,n2,rfl⟩
 refine⟨fun b s=>s=H5/\c % 6≠3/\b=[some (.int c),some (.ref a),some (.int (c % 6))],?_,?_⟩
 . refine⟨rfl,rfl,G5 (fun h=>?_) (fun h=>⟨rfl,fun z=>h (aM V.int z),rfl⟩)⟩
   refine⟨C6 (by show 1<=1000;decide),fun p m=>⟨dj (by decide) (by decide),_,rfl,fun l zs H6 M nl el U G=>?_⟩⟩
   have ep:=M p _ A6
   refine⟨p,l,_,_,rfl,rfl,ep,el,C6 (by rw[aP];show 1+_<=1000;lia),fun r B=>?_⟩
   have L:=t.trans ((C9.upd m).trans M)
   exact k r (.trap zs) _ (L.trans (C9.upd B)) (L.free B) A6 ⟨G,U⟩
 rintro b H6 ⟨rfl,n3,rfl⟩
 refine⟨C6 (by show 1<=1000;decide),fun p m=>⟨C6 (by show 1<=1000;decide),fun q N=>⟨C6 (by show 2<=1000;decide),fun r B=>?_⟩⟩⟩
 have u:=C9.upd (o:= .lst [.str "flags"]) m
 have u2:=C9.upd (o:= .lst [.str "clear"]) N
 have A:=C9.upd (o:= .lst [.ref p,.ref q]) B
 have C:=t.trans u
 rcases(by lia:c % 6=4\/c % 6=5) with e|e
 . exact⟨rfl,rfl,SqL.of A6,J7c (show c % 6-4=0 by lia),k p .flags _ (C.trans (u2.trans A)) (t.free m) (A _ _ (u2 _ _ A6)) trivial⟩
 exact⟨rfl,rfl,SqL.of A6,J6s (show c % 6-4=1 by lia),k q .clear _ (C.trans (u2.trans A)) (C.free N) (A _ _ A6) trivial⟩
end
abbrev C3t:Stmt:=(top 140)
def G4r:List Str:=C5a++(["root","to whole","trimmed","next up","next down","fused","power","scaled"]:List Str)
section
variable{P:Program}{w:World}{K:Frag}{Y:Str ->Option Value}{Z:Heap}
def scLOper:B9 ["_law_cell","_law_some","_law_names_here","_law_name","_law_texts"] ["_law_cell"] (A5 C3t):=scK
def G0b(D:Def K Y "_law_operation" ["_law_cell"] C3t f fd)(G:Def K Y "_law_text" ["_law_cell"] C3d f1 yj)(B:B0 P w K Y Z (CX1 P w) 2 f1 yj ["_law_cell"] D5c)(s:Def K Y "_law_mixed" ["_law_cell","_law_k"] B4j f2 yi)(r:B0 P w K Y Z (CX1 P w) 1 f2 yi ["_law_cell","_law_k"] B6z)(O:Own Y):B0 P w K Y Z (CX1 P w) 3 f fd ["_law_cell"] C4z:=by
 refine okZ D.F scLOper ?_
 rintro _ _ _ _ H _ Q E hr hx⟨c,rfl,c0,k⟩
 refine⟨_,(A2 (C8 (psz (i:=1) scLOper.nd (G8 (A0 A9 (A0 A9 (A0 A9 (A0 A9 (A0 A9 (A0 A9 (A0 A9 (A0 A9 (A0 A9 (A0 A9 A1))))))))))))) (A2 (C8 (psz (i:=2) scLOper.nd (D0 A8n (pv 1) (G8 (A0 A9 (A0 A9 (A0 A9 (A0 A9 (A0 A9 (A0 A9 (A0 A9 (A0 A9 A1)))))))))))) (A2 (C8 (psz (i:=3) scLOper.nd (G7 G4 (pv 2) (D0 Y2 (pv 0) A4) (fun _ _=>rfl)))) (A2 (C8 (C0x (i:=4) (N:=["_law_k"]) (F:=["_law_cell"]) (js:=[0]) (U1.of1 ⟨rfl,by decide+kernel,by decide+kernel,by decide+kernel,by decide+kernel⟩ (by rfl) (by rfl) ⟨_,by rfl⟩ (by rfl) (by rfl)) (.inl hr.hd) rfl (B4e rfl O.range_ (A0 A4 A1)) rfl (fun C s₀ H₀ ex pn h=>A1f (i:=0) (by decide+kernel:(["_law_k","_law_cell"]:List Str).Nodup) rfl (Or.inl rfl)) (fun C s₀ H₀ ex pn h=>(B8d G B hr (A0 (B8d s r hr (A0 (pv 1) (A0 (D0 V8 A4 (pv 0)) A1))) A1))) scLOper.nd rfl (Or.inl rfl))) (A2 (C8 (D3 (B5 D5 (pv 3) A9 B8) (A3 (A7 (G8 (A0 (pv 3) (A0 (G7 G4 (pv 4) A4 (fun _ _=>rfl)) (A0 (U8 Z6 (by rfl) O.str_ gH (A0 (D0 Y4 (D0 Y2 (D0 U3 (pv 0) A4) A4) A4) A1)) A1)))))) C0)) (A2 (C8 (D3 (B5 D5 (pv 3) A9 B8) (A3 (A7 (G8 (A0 (pv 3) (A0 (G7 G4 (pv 4) A4 (fun _ _=>rfl)) (A0 (A1x PySem.F.plainAttrs_str PySem.F.slot_str_zfill PySem.F.type_str_zfill B2g (U8 Z6 (by rfl) O.str_ gH (A0 (D0 Y4 (D0 Y2 (D0 U3 (pv 0) A4) A4) A4) A1)) (A0 (D0 V8 A4 (D0 Y2 (D0 U3 (pv 0) A4) A4)) A1)) A1)))))) C0)) (A2 (C8 (D3 (B5 A1c (pv 3) (A0s (A0 A9 (A0 A9 (A0 A9 (A0 A9 (A0 A9 A1)))))) (by rfl)) (A3 (A7 (G8 (A0 (pv 3) (A0 (G7 G4 (pv 4) A4 (fun _ _=>rfl)) A1))))) C0)) (A3 (A7 (D0 A8n (G8 (A0 (pv 3) A1)) (Z8 A3n (pv 4) A0q (A0p (D0 V8 A4 (U8 D7d (by rfl) O.int_ gZ (A0 (V6 D5 (pv 3) A9 B8) A1))))))))))))))),?_⟩
 have lg:∀z:Int, -99<=z ->z<=99 ->z.natAbs.log2<1920:=fun z h0 L=>bY (Z3 (k:=7) (by lia) (by decide)) (by decide)
 have X:∀(z:Int) {n:Int},0<n ->0<=z % n/\z % n<n:=fun z n h=>⟨eC _ (iR h),cQ _ h⟩
 have xw:∀z:Int,0<=z ->z<=4 ->PadOk z=true:=fun z h0 L=>by
   obtain⟨n,rfl⟩:=aV h0
   rcases(by lia:n=0\/n=1\/n=2\/n=3\/n=4) with rfl|rfl|rfl|rfl|rfl<;>decide+kernel
 refine⟨fun e g=>∃a,C9 H g/\g a=some (.lst (C5a.map V.str))/\e=[some (.int c),some (.ref a),none,none,none],⟨C6 (by decide),fun a na=>⟨a,C9.upd na,A6,rfl⟩⟩,?_⟩
 rintro e H1 ⟨a,s1,ea,rfl⟩
 refine⟨fun e g=>∃b,C9 H1 g/\g b=some (.lst (G4r.map V.str))/\e=[some (.int c),some (.ref a),some (.ref b),none,none],?_,?_⟩
 . refine⟨C6 (by decide),fun p A=>⟨a,p,_,_,rfl,rfl,(C9.upd A) _ _ ea,A6,C6 (by decide),fun b nb=>⟨b,(C9.upd A).trans (C9.upd nb),A6,rfl⟩⟩⟩
 rintro e H2 ⟨b,s2,eb,rfl⟩
 refine⟨fun e g=>∃nm,nm∈G4r/\g=H2/\e=[some (.int c),some (.ref a),some (.ref b),some (.str nm),none],?_,?_⟩
 . obtain⟨v,hv,ix⟩:=ixv (xs:=G4r.map V.str) (i:=c % 18) (X _ (by decide)).1 (by show c % 18<18;exact(X _ (by decide)).2)
   obtain⟨z,hz,rfl⟩:=eK.mp hv
   exact⟨(by decide:(0:Int)<18),rfl,rfl,SqL.of eb,ix,z,hz,rfl,rfl⟩
 rintro e H3 ⟨nm,xy,rfl,rfl⟩
 refine⟨fun e g=>∃d,∃I M T:Str×Nm,C9 H3 g/\g d=some (.lst [.str I.1,.str M.1,.str T.1])/\(∀p∈ [I,M,T],Wd p.1/\RdT p.1 p.2)/\e=[some (.int c),some (.ref a),some (.ref b),some (.str nm),some (.ref d)],?_,?_⟩
 . refine⟨3,rfl,by decide,by decide,B4m (J:=Itr 0 3) (n:=3) (fun _ y _=>∃p:Str×Nm,y= .str p.1/\Wd p.1/\RdT p.1 p.2) (by decide) (fun _ _ _ _ _ _ h _ _=>h) (fun i H4 Qy hi W hy=>⟨hi,fun x H5 yl=>?_⟩) (fun H4 W=>aO 3) (fun D H4 ys W nD eD ly hR=>?_)⟩
   . obtain⟨rfl,rfl⟩:=yl
     exact⟨c,_,rfl,by show(0:Int)<=10+(0+i);lia,by show 10+(0+(i:Int))<=100;lia,fun m m0 m1=>⟨m,rfl,fun z g s' hw ⟨x,hx⟩=>hy _ _ s' ⟨(z,x),rfl,hw,hx⟩⟩⟩
   . obtain⟨y1,y2,y3,rfl⟩:=ll3 ly
     obtain⟨I,rfl,L⟩:=hR 0 y1 rfl
     obtain⟨M,rfl,h2⟩:=hR 1 y2 rfl
     obtain⟨T,rfl,h3⟩:=hR 2 y3 rfl
     exact⟨D,I,M,T,W,eD,aU.2 ⟨L,aU.2 ⟨h2,aU.2 ⟨h3,fun _ h=>nomatch h⟩⟩⟩,rfl⟩
 rintro e H4 ⟨d,I,M,T,s4,ed,hp,rfl⟩
 have R:=s1.trans (s2.trans s4)
 have L:=hp I aH
 have a1:=X (c/18) (n:=9) (by decide)
 have a2:=X (c/18) (n:=43) (by decide)
 have a3:=X (c/774) (n:=4) (by decide)
 refine⟨fun e g=>g=H4/\nm≠"power"/\e=[some (.int c),some (.ref a),some (.ref b),some (.str nm),some (.ref d)],?_,?_⟩
 . refine⟨rfl,rfl,G5 (fun h=>?_) (fun h=>⟨rfl,fun z=>h (aM V.str z),rfl⟩)⟩
   exact⟨rfl,rfl,SqL.of ed,D9 (j:=0) rfl,dj (by decide) (by decide),(by decide:(0:Int)<9),_,rfl,lg _ (by lia) (by lia),C6 (by show 3<=1000;decide),fun p A=>k p (.cnt nm I (toString (c/18 % 9-4)) (c/18 % 9-4)) _ (R.trans (C9.upd A)) (R.free A) A6 ⟨.inl (V.str.inj h),L.1,L.2,D4r (by lia) (by lia),by lia,by lia,fun _=>by lia⟩⟩
 rintro e H5 ⟨rfl,xv,rfl⟩
 refine⟨fun e g=>g=H5/\nm≠"scaled"/\e=[some (.int c),some (.ref a),some (.ref b),some (.str nm),some (.ref d)],?_,?_⟩
 . refine⟨rfl,rfl,G5 (fun h=>?_) (fun h=>⟨rfl,fun z=>h (aM V.str z),rfl⟩)⟩
   obtain⟨j,ej⟩:=aV (show 0<=1+c/774 % 4 by lia)
   exact⟨rfl,rfl,SqL.of ed,D9 (j:=0) rfl,dj (by decide) (by decide),(by decide:(0:Int)<43),_,rfl,lg _ (by lia) (by lia),rfl,dj (by decide) (by decide),(by decide:(0:Int)<4),_,_,rfl,rfl,xw _ (by lia) (by lia),C6 (by show 3<=1000;decide),fun p A=>k p (.cnt nm I (Txt.zfill (toString (c/18 % 43-21)) (1+c/774 % 4)) (c/18 % 43-21)) _ (R.trans (C9.upd A)) (R.free A) A6 ⟨.inr (V.str.inj h),L.1,L.2,by rw[ej];exact B6p (by lia) (by lia) (by lia),by lia,by lia,fun q=>absurd q xv⟩⟩
 rintro e H6 ⟨rfl,yh,rfl⟩
 refine⟨fun e g=>C9 H6 g/\nm ∉ B1e/\e=[some (.int c),some (.ref a),some (.ref b),some (.str nm),some (.ref d)],?_,?_⟩
 . refine⟨C6 (by decide),fun t nt=>?_⟩
   have u:=C9.upd (o:= .tup (B1e.map V.str)) nt
   refine⟨t,_,rfl,.inr (SqT.of A6),rfl,rfl,rfl,?_⟩
   rw[aA aB,show inV (.str nm) [.str "root",.str "to whole",.str "trimmed",.str "next up",.str "next down"]=B1e.contains nm from A1p nm B1e]
   cases U:B1e.contains nm with
   |false=>exact V4 ⟨u,fun q=>(by rw[dO.mpr q] at U;cases U),rfl⟩
   |true=>exact Y9 ⟨rfl,rfl,SqL.of (u _ _ ed),D9 (j:=0) rfl,C6 (by show 2<=1000;decide),fun p A=>k p (.op nm [I]) _ (R.trans (u.trans (C9.upd A))) ((R.trans u).free A) A6 ⟨fun p xx=>by rw[bE.mp xx];exact L,.inl ⟨dO.mp U,rfl⟩⟩⟩
 rintro e H7 ⟨s7,xz,rfl⟩
 have sK:=R.trans s7
 have yk:=s7 _ _ ed
 have h2:=hp M (aJ _ aH)
 have two:nm∈C5a\/nm="fused":=by
   rcases bO.mp xy with h|h
   . exact .inl h
   . have:nm∈B1e++(["fused","power","scaled"]:List Str):=h
     rcases bO.mp this with h|h
     . exact absurd h xz
     . rcases bM.mp h with h|h
       . exact .inr h
       . rcases bM.mp h with h|h
         . exact absurd h xv
         . exact absurd (bE.mp h) yh
 refine⟨C6 (by show 1<=1000;decide),fun p A=>⟨rfl,.inr ⟨_,rfl,_,rfl,d,_,rfl,SqL.of ((C9.upd A) _ _ yk),fun q nq=>?_⟩⟩⟩
 have u:=C9.upd (o:= .lst [.str nm]) A
 obtain⟨ps,ec,xu⟩:∃ps:List (Str×Nm),A3v [V.str I.1,.str M.1,.str T.1] none (some (2+if decide (V.str nm=V.str "fused")=true then 1 else 0))=(ps.map (·.1)).map V.str/\(Ln.op nm ps).Ok/\ps.length<=3:=by
   by_cases hf:nm="fused"
   . refine⟨[I,M,T],by rw[aT (aM V.str hf)];exact B2s _ 3,⟨hp,.inr (.inr ⟨hf,rfl⟩)⟩,by simp⟩
   . refine⟨[I,M],by rw[aI (fun z=>hf (V.str.inj z))];exact B2s _ 2,⟨aU.2 ⟨L,aU.2 ⟨h2,fun _ h=>nomatch h⟩⟩,.inr (.inl ⟨two.resolve_right hf,rfl⟩)⟩,by simp⟩
 have u2:=C9.upd (o:= .lst ((ps.map (·.1)).map V.str)) nq
 rw[ec]
 refine⟨p,q,_,_,rfl,rfl,u2 _ _ A6,A6,C6 (by rw[aP,aP];show 1+_<=1000;have:=xu.2;lia),fun l nl=>?_⟩
 have W:=sK.trans (u.trans u2)
 exact k l (.op nm ps) _ (W.trans (C9.upd nl)) (W.free nl) A6 xu.1
end
abbrev D4f:Stmt:=(top 142)
abbrev C2x:Stmt:=(top 141)
def Ln.res(v:Cv):Ln ->Nm×List Str
 | .cnt nm p _ k=>CNT nm v p.2 k
 | .op nm ps=>RES nm v (ps.map (·.2))
 |_=>(Z5,[])
def Ln.reck:Ln ->Prop
 | .cnt _ _ _ _=>True
 | .op nm _=>nm≠"compare"
 |_=>False
section
variable{P:Program}{w:World}{K:Frag}{Y:Str ->Option Value}{Z:Heap}
def U0u:B9 ["_law_context","_law_name","_law_one","_law_other"] ["_law_context","_law_name","_law_one","_law_other"] (A5 D4f):=scK
def J5h(D:Def K Y "_law_of_two" ["_law_context","_law_name","_law_one","_law_other"] D4f f fd)(S:U1x P w K Y Z U W T):B0 P w K Y Z (CX1 P w) 9 f fd ["_law_context","_law_name","_law_one","_law_other"] (D5p U W T):=by
 refine okZ D.F U0u ?_
 rintro _ _ _ _ H _ Q E x u⟨c,v,a,b,xs,ys,nm,O,N,G,F,rfl,R,ok,J,I,M,L,k⟩
 obtain⟨⟨_,_,B,y⟩,⟨_,_,t,r⟩,⟨_,_,s,q⟩,⟨_,_,C,A⟩,⟨_,_,g,d⟩,⟨_,_,m,j⟩,⟨_,_,i,e⟩,⟨_,_,p,o⟩,⟨_,_,n,l⟩⟩:=S
 refine⟨_,(A2 (D3 (B5 D5 (pv 1) A9 B8) (A3 (A7 (B7 B y x u (A0 (pv 0) (A0 (pv 2) (A0 (pv 3) A1)))))) C0) (A2 (D3 (B5 D5 (pv 1) A9 B8) (A3 (A7 (B7 t r x u (A0 (pv 0) (A0 (pv 2) (A0 (pv 3) A1)))))) C0) (A2 (D3 (B5 D5 (pv 1) A9 B8) (A3 (A7 (B7 s q x u (A0 (pv 0) (A0 (pv 2) (A0 (pv 3) A1)))))) C0) (A2 (D3 (B5 D5 (pv 1) A9 B8) (A3 (A7 (B7 C A x u (A0 (pv 0) (A0 (pv 2) (A0 (pv 3) A1)))))) C0) (A2 (D3 (B5 D5 (pv 1) A9 B8) (A3 (A7 (B7 g d x u (A0 (pv 0) (A0 (pv 2) (A0 (pv 3) A1)))))) C0) (A2 (D3 (B5 D5 (pv 1) A9 B8) (A3 (A7 (B7 m j x u (A0 (pv 0) (A0 (pv 2) (A0 (pv 3) A1)))))) C0) (A2 (D3 (B5 D5 (pv 1) A9 B8) (A3 (A7 (B7 i e x u (A0 (pv 0) (A0 (pv 2) (A0 (pv 3) A1)))))) C0) (A2 (D3 (B5 D5 (pv 1) A9 B8) (A3 (A7 (B7 p o x u (A0 (pv 0) (A0 (pv 2) (A0 (pv 3) A1)))))) C0) (A3 (A7 (B7 n l x u (A0 (pv 0) (A0 (pv 2) (A0 (pv 3) A1)))))))))))))),?_⟩
 unfold OP2 at k
 iterate 8
   refine⟨rfl,rfl,?_⟩
   refine G5 (fun h=>by rw[aC (V.str.inj h)] at k;exact⟨c,v,a,b,xs,ys,O,N,G,F,rfl,R,ok,J,I,M,L,k⟩) (fun h=>?_)
   rw[aA (fun z=>h (aM V.str z))] at k
   clear h
 exact⟨c,v,a,b,xs,ys,O,N,G,F,rfl,R,ok,J,I,M,L,k⟩
inductive D5b(g e f:Addr)(vs:List V)(H:Hp)(Q:VK)(E:XK):Prop
 |mk(c v a b xs ys l) (d:Ln)(_:vs=[.ref c,.ref l])(_:U5 e H c v a b xs ys)(_:v.Ok)(_:V7 xs=xs)(_:H l=some (.lst (d.ws.map V.str)))(_:d.Ok)(_:d.reck)(_:V9 g e f H c v b xs ys (d.res v) Q E)
def scLReck:B9 ["_law_context","_law_words","_law_name","_law_numbers","_law_one"] ["_law_context","_law_words"] (A5 C2x):=scK
def G2y(D:Def K Y "_law_reckoned" ["_law_context","_law_words"] C2x f fd)(yw:Def K Y "read" ["text"] B7t f1 zu)(yt:B0 P w K Y Z (CX1 P w) 5 f1 zu ["text"] (B8v CN))(SP:Op P w K Y Z "to_power" ["context","one","count"] B3u (spC CN CC CT 20 Fpo))(SS:Op P w K Y Z "scaled" ["context","one","count"] A9y (spC CN CC CT 100 Fsc))(S:U2b P w K Y Z CN CC CT)(SF:Op P w K Y Z "fused" ["context","one","other","third"] B4f (sp3 CN CC CT))(xv:Def K Y "_law_of_two" ["_law_context","_law_name","_law_one","_law_other"] D4f f2 zt)(W:B0 P w K Y Z (CX1 P w) 9 f2 zt ["_law_context","_law_name","_law_one","_law_other"] (D5p CN CC CT))(O:Own Y):B0 P w K Y Z (CX1 P w) 10 f fd ["_law_context","_law_words"] (D5b CN CC CT):=by
 refine okZ D.F scLReck ?_
 rintro _ _ _ _ H _ Q E hr hx⟨c,v,a,b,xs,ys,l,ln,rfl,hc,ok,ox,el,yh,zb,k⟩
 obtain⟨_,_,xu,U⟩:=SP
 obtain⟨_,_,yk,yj⟩:=SS
 obtain⟨_,_,yo,yn⟩:=SF
 obtain⟨⟨_,_,yu,yr⟩,⟨_,_,X,T⟩,⟨_,_,xy,xw⟩,⟨_,_,xz,xx⟩,⟨_,_,M,L⟩⟩:=S
 refine⟨_,(A2 (C8 (D4 (i:=2) scLReck.nd rfl (Or.inr rfl) (G7 G4 (pv 1) A4 (fun _ _=>rfl)))) (A2 (C8 (C6g (i:=3) (N:=["_law_word"]) (F:=["_law_words","_law_name"]) (js:=[1,2]) (U1.of2 ⟨rfl,by decide+kernel,by decide+kernel,by decide+kernel,by decide+kernel⟩ (by rfl) (by rfl) ⟨_,by rfl⟩ (by rfl) (by rfl) (by rfl) ⟨_,by rfl⟩ (by rfl) (by rfl)) (.inl hr.hd) rfl (A7j (Z8 A3n (pv 1) (A0p A4) A0q)) rfl (fun C s₀ H₀ ex pn h=>A1f (i:=0) (by decide+kernel:(["_law_word","_law_words","_law_name"]:List Str).Nodup) rfl (Or.inl rfl)) (fun C s₀ H₀ ex pn h=>(PW.pt (B0s (B5 (B9r (K:=K) rfl) (pv 2) (A0s (A0 A9 (A0 A9 A1))) (by rfl)) (A6u (B5 D5 (pv 0) (G7 (A5z (K:=K) rfl) (pv 1) A4 (fun _ _=>rfl)) B8))))) (fun C s₀ H₀ ex pn h=>(B8d yw yt hr (A0 (pv 0) A1))) scLReck.nd rfl (Or.inl rfl))) (A2 (C8 (psz (i:=4) scLReck.nd (G7 G4 (pv 3) A4 (fun _ _=>rfl)))) (A2 (id (D3 (B5 D5 (pv 2) A9 B8) (A3 (A7 (B7 xu U hr hx (A0 (pv 0) (A0 (pv 4) (A0 (U8 Y5 (by rfl) O.int_ gZ (A0 (G7 G4 (pv 1) A4 (fun _ _=>rfl)) A1)) A1)))))) C0)) (A2 (id (D3 (B5 D5 (pv 2) A9 B8) (A3 (A7 (B7 yk yj hr hx (A0 (pv 0) (A0 (pv 4) (A0 (U8 Y5 (by rfl) O.int_ gZ (A0 (G7 G4 (pv 1) A4 (fun _ _=>rfl)) A1)) A1)))))) C0)) (A2 (id (D3 (B5 D5 (pv 2) A9 B8) (A3 (A7 (B7 yu yr hr hx (A0 (pv 0) (A0 (pv 4) A1))))) C0)) (A2 (id (D3 (B5 D5 (pv 2) A9 B8) (A3 (A7 (B7 X T hr hx (A0 (pv 0) (A0 (pv 4) A1))))) C0)) (A2 (id (D3 (B5 D5 (pv 2) A9 B8) (A3 (A7 (B7 xy xw hr hx (A0 (pv 0) (A0 (pv 4) A1))))) C0)) (A2 (id (D3 (B5 D5 (pv 2) A9 B8) (A3 (A7 (B7 xz xx hr hx (A0 (pv 0) (A0 (pv 4) A1))))) C0)) (A2 (id (D3 (B5 D5 (pv 2) A9 B8) (A3 (A7 (B7 M L hr hx (A0 (pv 0) (A0 (pv 4) A1))))) C0)) (A2 (id (D3 (B5 D5 (pv 2) A9 B8) (A3 (A7 (B7 yo yn hr hx (A0 (pv 0) (A0 (pv 4) (A0 (G7 G4 (pv 3) A4 (fun _ _=>rfl)) (A0 (G7 G4 (pv 3) A4 (fun _ _=>rfl)) A1))))))) C0)) (A3 (A7 (B7 xv W hr hx (A0 (pv 0) (A0 (pv 2) (A0 (pv 4) (A0 (G7 G4 (pv 3) A4 (fun _ _=>rfl)) A1)))))))))))))))))),?_⟩
 obtain⟨nm,s,g,ew,hg,h1,h100⟩:∃(nm:Str) (s:List Str) (g:Nat ->Nm),ln.ws=nm::s/\(∀(i:Nat) z,s[i]?=some z ->((["power","scaled"]:List Str).contains nm=false\/s[0]?=some z) ->RdT z (g i))/\1<=s.length/\s.length<=100:=by
   cases ln with
   | cnt nm p y m=>
     refine⟨nm,[p.1,y],fun _=>p.2,rfl,fun i z hi h=>?_,by simp,by simp⟩
     rcases h with h|h
     . exfalso
       rcases yh.1 with rfl|rfl<;>exact absurd h (by decide+kernel)
     . obtain rfl:p.1=z:=bF h
       exact yh.2.2.1
   | op nm ps=>
     refine⟨nm,ps.map (·.1),fun i=>((ps[i]?).getD ("",Z5)).2,rfl,fun i z hi _=>?_,?_⟩
     . rw[eX] at hi
       obtain⟨p,hp,rfl⟩:=iT.mp hi
       show RdT p.1 ((ps[i]?).getD ("",Z5)).2
       rw[hp]
       exact(yh.1 p (cF hp)).2
     . rw[aP]
       rcases yh.2 with h|h|h<;>(have:=h.2;lia)
   |_=>exact zb.elim
 rw[ew] at el
 refine⟨fun R H'=>H'=H/\R=[some (.ref c),some (.ref l),some (.str nm),none,none],⟨rfl,rfl,SqL.of el,D9 (j:=0) rfl,rfl,rfl⟩,?_⟩
 rintro R H1 ⟨rfl,rfl⟩
 have z2:2<=sizeLine:=C6 (by decide)
 refine⟨fun R H'=>∃D us,C9 H1 H'/\H' D=some (.lst us)/\(∀j:Nat,(j=0\/(["power","scaled"]:List Str).contains nm=false) ->j<s.length ->∃n,us[j]?=some (.ref n)/\J0 CN H' n (g j))/\R=[some (.ref c),some (.ref l),some (.str nm),some (.ref D),none],?_,?_⟩
 . refine⟨1,rfl,l,_,rfl,SqL.of el,fun p np=>?_⟩
   have u:=C9.upd (o:= .lst (s.map V.str)) np
   rw[show A3v ((nm::s).map V.str) (some 1) none=s.map V.str from A9t _ 1]
   have ep:upd H1 p (.lst (s.map V.str)) p=some (.lst (s.map V.str)):=A6
   have zy:=u _ _ el
   refine⟨p,rfl,⟨_,SqL.of A6⟩,C6z (J:=Itl K p) (n:=s.length) (fun i=> !((["power","scaled"]:List Str).contains nm)||decide (s[i]?=s[0]?)) (fun i y H'=>∃n,y= .ref n/\J0 CN H' n (g i)) (by lia) (fun i y H1 H2 D l h hD e=>by obtain⟨n,e1,e2⟩:=h;exact⟨n,e1,e2.exc hD e⟩) (fun i H5 Qy Qn hi sm hy hn=>⟨⟨_,V.str s[i],SqL.of (sm _ _ ep),by simp[hi]⟩,fun x H6 yl=>?_⟩) (fun H5 sm=>⟨_,SqL.of (sm _ _ ep),by simp⟩) (fun D H5 us s5 nD eD lu hR=>?_)⟩
   . obtain⟨rfl,yl⟩:=yl
     have ex:x=V.str s[i]:=by
       have:=yl _ (SqL.of (sm _ _ ep))
       simp[hi] at this
       exact this.symm
     subst ex
     refine⟨z2,fun t nt=>?_⟩
     have u2:=C9.upd (o:= .tup [.str "power",.str "scaled"]) nt
     have zx:=u2 _ _ (sm _ _ zy)
     refine⟨t,_,rfl,.inr (SqT.of A6),rfl,rfl,rfl,?_⟩
     rw[aC rfl,show inV (.str nm) [.str "power",.str "scaled"]=(["power","scaled"]:List Str).contains nm from A1p nm ["power","scaled"]]
     cases yp:(["power","scaled"]:List Str).contains nm with
     | false=>
       obtain⟨r1,r2,r3,_⟩:=hg i s[i] (aY hi) (.inl yp)
       exact Y9 (Y9 ⟨s[i],g i,rfl,r1,r2,r3,fun n H' nn s' B=>hy (by rw[yp];rfl) _ _ (u2.trans s') ⟨n,rfl,B⟩⟩)
     | true=>
       have at1:atI ((nm::s).map V.str) 1=some (.str s[0]):=D9 (j:=1) (by simp)
       refine V4 ⟨rfl,rfl,SqL.of zx,at1,rfl,rfl,?_⟩
       by_cases he:s[i]=s[0]
       . have e0:s[0]?=some s[i]:=by rw[he];exact aY _
         obtain⟨r1,r2,r3,_⟩:=hg i s[i] (aY hi) (.inr e0)
         exact Y8 (aM V.str he) ⟨s[i],g i,rfl,r1,r2,r3,fun n H' nn s' B=>hy (by rw[yp,e0,aY hi,aT rfl];rfl) _ _ (u2.trans s') ⟨n,rfl,B⟩⟩
       . exact Y0 (fun q=>he (V.str.inj q)) (hn (by rw[yp,aY hi,aY (show 0<s.length by lia),aI (fun q=>he (bF q))];rfl) _ u2)
   . refine⟨D,us,u.trans s5,eD,fun j hj hl=>?_,rfl⟩
     have ff:((List.range s.length).filter fun i=> !((["power","scaled"]:List Str).contains nm)||decide (s[i]?=s[0]?))[j]?=some j:=by
       rcases hj with rfl|hj
       . obtain⟨k,ek⟩:∃k,s.length=k+1:=⟨s.length-1,by lia⟩
         rw[ek,List.range_succ_eq_map,List.filter_cons_of_pos (by simp)]
         rfl
       . rw[List.filter_eq_self.mpr (fun i _=>by rw[hj];rfl)]
         simp[hl]
     have lj:j<us.length:=by
       rw[lu]
       exact(bQ.mp ff).1
     obtain⟨n,e1,e2⟩:=hR j j us[j] ff (aY lj)
     exact⟨n,by rw[aY lj,e1],e2⟩
 rintro R H2 ⟨D,us,s2,eD,hu,rfl⟩
 obtain⟨n1,yq,I⟩:=hu 0 (.inl rfl) (by lia)
 have yi:=hc.same s2
 have k:=k.same s2
 have zd:=s2 _ _ el
 refine⟨fun R H'=>H'=H2/\R=[some (.ref c),some (.ref l),some (.str nm),some (.ref D),some (.ref n1)],⟨rfl,rfl,SqL.of eD,D9 (j:=0) yq,rfl,rfl⟩,?_⟩
 rintro R H3 ⟨rfl,rfl⟩
 have no:∀{t:Str},nm≠t ->¬V.str nm=V.str t:=fun h q=>h (V.str.inj q)
 cases ln with
 | cnt A p y m=>
   obtain⟨hn,hw,yz,ct,m0,m1,mp⟩:=yh
   injection ew with e1 e2
   subst e1 e2
   have g0:=hg 0 p.1 rfl (.inr rfl)
   have gx:g 0=p.2:=bF (g0.2.2.1.symm.trans yz.2.2.1)
   rw[gx] at I
   have ze:atI ([A,p.1,y].map V.str) 2=some (.str y):=D9 (j:=2) rfl
   have yl:y.length<=640:=by have:=ct.w.l;lia
   have k:V9 CN CC CT H3 c v b xs ys (CNT A v p.2 m) Q E:=k
   unfold CNT at k
   by_cases hp:A="power"
   . rw[aC hp] at k
     exact⟨rfl,rfl,Y8 (aM V.str hp) ⟨rfl,rfl,SqL.of zd,ze,y,m,rfl,ct.i,yl,c,v,a,b,xs,ys,n1,p.2,m,rfl,yi,ok,ox,I,yz.2.2.2,(mp hp).1,(mp hp).2,k⟩⟩
   . rw[aA hp] at k
     have hs:=hn.resolve_left hp
     exact⟨rfl,rfl,Y0 (no hp) ⟨rfl,rfl,Y8 (aM V.str hs) ⟨rfl,rfl,SqL.of zd,ze,y,m,rfl,ct.i,yl,c,v,a,b,xs,ys,n1,p.2,m,rfl,yi,ok,ox,I,yz.2.2.2,m0,m1,k⟩⟩⟩
 | op A ps=>
   obtain⟨hw,ym⟩:=yh
   injection ew with e1 e2
   subst e1 e2
   have cls:∀x∈B1e++C5a++(["fused"]:List Str),(["power","scaled"]:List Str).contains x=false/\x≠"power"/\x≠"scaled":=by decide+kernel
   have zm:A∈B1e++C5a++(["fused"]:List Str):=by
     rcases ym with h|h|h
     . exact aZ _ (aZ _ h.1)
     . exact aZ _ (bJ _ h.1)
     . exact bJ _ (bE.mpr h.1)
   obtain⟨zc,zi,zh⟩:=cls A zm
   have G:∀(i:Nat) p,ps[i]?=some p ->∃n,us[i]?=some (.ref n)/\J0 CN H3 n p.2/\p.2.Sm:=fun i p hp=>by
     have hi:i<ps.length:=(bQ.mp hp).1
     obtain⟨n,eu,nu⟩:=hu i (.inr zc) (by rw[aP];exact hi)
     have r1:=hg i p.1 (by rw[eX,hp];rfl) (.inl zc)
     have r2:=(hw p (cF hp)).2
     rw[bF (r1.2.2.1.symm.trans r2.2.2.1)] at nu
     exact⟨n,eu,nu,r2.2.2.2⟩
   clear I
   refine⟨rfl,rfl,Y0 (no zi) ⟨rfl,rfl,Y0 (no zh) ?_⟩⟩
   have k:V9 CN CC CT H3 c v b xs ys (RES A v (ps.map (·.2))) Q E:=k
   rcases ym with⟨zk,l1⟩|⟨zj,l2⟩|⟨rfl,l3⟩
   . obtain⟨p,rfl⟩:=ll1 l1
     obtain⟨n,eu,B,sm⟩:=G 0 p rfl
     obtain rfl:n1=n:=by rw[yq] at eu;injection eu with eu;injection eu
     have hd:A≠"root" ->A≠"to whole" ->A≠"trimmed" ->A≠"next up" ->A="next down":=fun a b c d=>(bM.mp zk).elim (fun e=>absurd e a) fun h=>(bM.mp h).elim (fun e=>absurd e b) fun h=>(bM.mp h).elim (fun e=>absurd e c) fun h=>(bM.mp h).elim (fun e=>absurd e d) bE.mp
     have k:V9 CN CC CT H3 c v b xs ys (OP1 A v p.2) Q E:=k
     unfold OP1 at k
     iterate 4
       refine⟨rfl,rfl,?_⟩
       refine G5 (fun h=>by rw[aC (V.str.inj h)] at k;exact⟨c,v,a,b,xs,ys,n1,p.2,rfl,yi,ok,ox,B,sm,k⟩) (fun h=>?_)
       rw[aA (fun z=>h (aM V.str z))] at k
       replace hd:=hd fun z=>h (aM V.str z)
       clear h
     exact⟨rfl,rfl,Y8 (aM V.str hd) ⟨c,v,a,b,xs,ys,n1,p.2,rfl,yi,ok,ox,B,sm,k⟩⟩
   . obtain⟨p,q,rfl⟩:=ll2 l2
     obtain⟨n,eu,B,sm⟩:=G 0 p rfl
     obtain rfl:n1=n:=by rw[yq] at eu;injection eu with eu;injection eu
     obtain⟨n2,za,num2,yx⟩:=G 1 q rfl
     have nt:∀t∈B1e++(["fused"]:List Str),A≠t:=(by decide+kernel:∀x∈C5a,∀t∈B1e++(["fused"]:List Str),x≠t) A zj
     iterate 6 refine⟨rfl,rfl,Y0 (no (nt _ (by decide+kernel))) ?_⟩
     exact⟨rfl,rfl,SqL.of eD,D9 (j:=1) za,c,v,a,b,xs,ys,A,n1,n2,p.2,q.2,rfl,yi,ok,ox,⟨B,num2⟩,sm,yx,k⟩
   . obtain⟨p,q,r,rfl⟩:=ll3 l3
     obtain⟨n,eu,B,sm⟩:=G 0 p rfl
     obtain rfl:n1=n:=by rw[yq] at eu;injection eu with eu;injection eu
     obtain⟨n2,za,num2,yx⟩:=G 1 q rfl
     obtain⟨n3,zw,yy,zg⟩:=G 2 r rfl
     have nt:∀t∈B1e,("fused":Str)≠t:=by decide+kernel
     iterate 5 refine⟨rfl,rfl,Y0 (no (nt _ (by decide+kernel))) ?_⟩
     exact⟨rfl,rfl,Y8 rfl ⟨rfl,rfl,SqL.of eD,D9 (j:=1) za,rfl,rfl,SqL.of eD,D9 (j:=2) zw,c,v,a,b,xs,ys,n1,n2,n3,p.2,q.2,r.2,rfl,yi,ok,ox,⟨B,num2⟩,yy,sm,yx,zg,k⟩⟩
 |_=>exact zb.elim
end
abbrev C1y:Stmt:=(top 143)
def Ln.vals(v:Cv):Ln ->Int×Str×Int×Int
 | .room _ k=>(k,v.y.name,v.l,v.m)
 | .way z=>(v.r,z,v.l,v.m)
 | .bounds _ _ k1 k2=>(v.r,v.y.name,k1,k2)
 |_=>(0,"",0,0)
def Ln.chg(v:Cv)(a:Ln):Chg:=mkC (a.vals v).1 (A3u (a.vals v).2.1) (a.vals v).2.2.1 (a.vals v).2.2.2
def Ln.sets:Ln ->Prop
 | .room _ _=>True
 | .way _=>True
 | .bounds _ _ _ _=>True
 |_=>False
def V2j(d:Addr)(H:Hp)(xs ys:List Str)(Q:VK):Chg ->Prop
 | .ok c=>∀b a' b' a,C9 H a ->H b=none ->H a'=none ->H b'=none ->U5 d a b c a' b' xs ys ->Q (.ref b) a
 |_=>∀a,C9 H a ->Q .non a
abbrev st4(c l:Addr)(x2 x3:Option V):L2.St:=[some (.ref c),some (.ref l),x2,x3]
section
variable{P:Program}{w:World}{K:Frag}{Y:Str ->Option Value}{Z:Heap}
inductive D5m(e:Addr)(vs:List V)(H:Hp)(Q:VK)(_:XK):Prop
 |mk(c v a b xs ys l) (d:Ln)(_:vs=[.ref c,.ref l])(_:U5 e H c v a b xs ys)(_:V7 xs=xs)(_:V7 ys=ys)(_:H l=some (.lst (d.ws.map V.str)))(_:d.Ok)(_:d.sets)(_:V2j e H xs ys Q (d.chg v))
def scLSetC:B9 ["_law_context","_law_words","_law_values","_law_made"] ["_law_context","_law_words"] (A5 C1y):=scK
def G0g{cw:Wy ->Addr}(D:Def K Y "_law_set" ["_law_context","_law_words"] C1y f fd)(R:D5j K Y C2 C3 C4 CT)(CM:A3k P w K Y Z G C3 CT CW cw)(WN:∀y:Wy,D9m P w K Y Z (cw y) y.name)(MC:D5d P w K Y Z G C3 fI ym)(B4:L2.Binds K ym ["self","room","way","least","most"] [])(MF:Has P w K Y Z G "flags" 1 ["self"] (A3j G))(MT:Has P w K Y Z G "trap" 2 ["self","names"] (B4u K G C3))(yt:Has P w K Y Z G "traps" 1 ["self"] (A7r G))(T:Kit K)(O:Own Y):B0 P w K Y Z (CX1 P w) 5 f fd ["_law_context","_law_words"] (D5m G):=by
 refine okZ D.F scLSetC ?_
 rintro _ _ _ _ H _ Q E W hx⟨c,v,a,b,xs,ys,l,F,rfl,X,ox,oy,el,B,yi,k⟩
 have C:=CM.c
 obtain⟨ff,yz,mf,gf,bf⟩:=MF
 obtain⟨ft,yw,mt,gt,bt⟩:=MT
 obtain⟨fs,yx,ms,gs,bs⟩:=yt
 obtain⟨fr,yy,mr,gr,br⟩:=CM.raised
 obtain⟨fW,za,mW,gW,bW⟩:=CM.way
 obtain⟨fU,zb,mU,gU,bU⟩:=WN v.y
 refine⟨_,(A2 (C8 (psz (i:=2) scLSetC.nd (G8 (A0 (C7 (pv 0) rfl) (A0 (Y6 (Y6 (pv 0) C.cl mW gW W bW .nil hx) (CM.wc v.y).cl mU gU W bU .nil hx) (A0 (C7 (pv 0) rfl) (A0 (C7 (pv 0) rfl) A1))))))) (A2 (C8 (D3 (B5 D5 (G7 G4 (pv 1) A4 (fun _ _=>rfl)) A9 B8) (A3 (C9m (U8 Y5 (by rfl) O.int_ gZ (A0 (G7 G4 (pv 1) A4 (fun _ _=>rfl)) A1)) (G0d (pv 2) A4 C5p))) (A3 (D3 (B5 D5 (G7 G4 (pv 1) A4 (fun _ _=>rfl)) A9 B8) (A3 (C9m (G7 G4 (pv 1) A4 (fun _ _=>rfl)) (G0d (pv 2) A4 C5p))) (A3 (psz (i:=2) scLSetC.nd (D0 A8n (Z8 A3n (pv 2) A0q (A0p A4)) (G8 (A0 (U8 Y5 (by rfl) O.int_ gZ (A0 (G7 G4 (pv 1) A4 (fun _ _=>rfl)) A1)) (A0 (U8 Y5 (by rfl) O.int_ gZ (A0 (G7 G4 (pv 1) A4 (fun _ _=>rfl)) A1)) A1)))))))))) (A2 (C8 (C4h ⟨rfl,rfl,rfl⟩ (fun xv Ew ze X=>(A3 (psz (i:=3) scLSetC.nd (A0r MC.m MC.g W C.g B4 .nil X (A0 (G7 (A5z (K:=K) rfl) (pv 2) A4 (fun _ _=>rfl)) (A0 (G7 (A5z (K:=K) rfl) (pv 2) A4 (fun _ _=>rfl)) (A0 (G7 (A5z (K:=K) rfl) (pv 2) A4 (fun _ _=>rfl)) (A0 (G7 (A5z (K:=K) rfl) (pv 2) A4 (fun _ _=>rfl)) A1)))))))) (C1x R.g3 R.c3 (fun xv a=>(A3 (A7 A8d))) C1z))) (A2 (C8 (J9 (A2z (pv 3) C.cl mr gr W br .nil hx (A0 (Y6 (pv 0) C.cl mf gf W bf .nil hx) A1)))) (A2 (C8 (J9 (A2z (pv 3) C.cl mt gt W bt .nil hx (A0 (Y6 (pv 0) C.cl ms gs W bs .nil hx) A1)))) (A3 (A7 (pv 3)))))))),?_⟩
 obtain⟨dx,ec⟩:=X.ins
 refine⟨fun d g=>∃p,C9 H g/\H p=none/\g p=some (.lst [.int v.r,.str v.y.name,.int v.l,.int v.m])/\d=st4 c l (some (.ref p)) none,?_,?_⟩
 . refine⟨rfl,ec,C.cl,C.n_room,A0f,rfl,ec,A4u,c,v.r,v.y,v.l,v.m,a,b,_,_,rfl,X,fun q dq H2 nq s2 eq=>⟨rfl,eq,rfl,q,rfl,?_⟩⟩
   exact⟨rfl,s2 _ _ ec,C.cl,C.n_least,A6h,rfl,s2 _ _ ec,C.cl,C.n_most,A3w,C6 (by show 4<=1000;decide),fun p I=>⟨p,s2.trans (C9.upd I),s2.free I,A6,rfl⟩⟩
 rintro d H1 ⟨p,s1,I,M,rfl⟩
 have n:=s1 _ _ el
 have xw:∀{o:HO},C9 H (upd H1 p o):=fun q o e=>by rw[D8 (D6 e I)];exact s1 _ _ e
 refine⟨fun d g=>∃p,C9 H g/\g p=some (.lst [.int (F.vals v).1,.str (F.vals v).2.1,.int (F.vals v).2.2.1,.int (F.vals v).2.2.2])/\d=st4 c l (some (.ref p)) none,?_,?_⟩
 . have xu:∀{y:Str} {k:Int},CtT y k ->y.length<=640:=fun h=>by have:=h.w.l;lia
   cases F with
   |room y m=>exact⟨rfl,rfl,SqL.of n,D9 (j:=0) rfl,rfl,rfl,Y8 rfl ⟨rfl,rfl,SqL.of n,D9 (j:=1) rfl,y,m,rfl,B.i,xu B,p,_,_,0,rfl,rfl,M,rfl,p,xw,A6,rfl⟩⟩
   |way z=>exact⟨rfl,rfl,SqL.of n,D9 (j:=0) rfl,rfl,rfl,Y0 (fun q=>absurd (V.str.inj q) (by decide+kernel)) ⟨rfl,rfl,SqL.of n,D9 (j:=0) rfl,rfl,rfl,Y8 rfl ⟨rfl,rfl,SqL.of n,D9 (j:=1) rfl,p,_,_,1,rfl,rfl,M,rfl,p,xw,A6,rfl⟩⟩⟩
   | bounds y1 y2 k1 k2=>
     refine⟨rfl,rfl,SqL.of n,D9 (j:=0) rfl,rfl,rfl,Y0 (fun q=>absurd (V.str.inj q) (by decide+kernel)) ⟨rfl,rfl,SqL.of n,D9 (j:=0) rfl,rfl,rfl,Y0 (fun q=>absurd (V.str.inj q) (by decide+kernel)) ⟨_,rfl,p,_,rfl,SqL.of M,fun q nq=>?_⟩⟩⟩
     have u:=C9.upd (o:= .lst (A3v [.int v.r,.str v.y.name,.int v.l,.int v.m] none (some 2))) nq
     have e2:A3v [V.int v.r,.str v.y.name,.int v.l,.int v.m] none (some 2)=[.int v.r,.str v.y.name]:=B2s _ 2
     refine⟨rfl,rfl,SqL.of (u _ _ n),D9 (j:=1) rfl,y1,k1,rfl,B.1.i,xu B.1,rfl,rfl,SqL.of (u _ _ n),D9 (j:=2) rfl,y2,k2,rfl,B.2.i,xu B.2,C6 (by show 2<=1000;decide),fun r nr=>?_⟩
     have u2:=C9.upd (o:= .lst [.int k1,.int k2]) nr
     refine⟨q,r,_,_,rfl,rfl,u2 _ _ A6,A6,C6 (by rw[e2];show 4<=1000;decide),fun t nt=>⟨t,s1.trans (u.trans (u2.trans (C9.upd nt))),?_,rfl⟩⟩
     rw[A6,e2]
     rfl
   |_=>exact yi.elim
 rintro d H2 ⟨p,s2,M,rfl⟩
 have yu:=X.same s2
 unfold Ln.chg at k
 refine⟨fun d g=>∃s A a' b',mkC (F.vals v).1 (A3u (F.vals v).2.1) (F.vals v).2.2.1 (F.vals v).2.2.2= .ok A/\C9 H g/\H s=none/\U5 G g s A a' b' [] []/\d=st4 c l (some (.ref p)) (some (.ref s)),?_,?_⟩
 . refine⟨rfl,rfl,SqL.of M,D9 (j:=0) rfl,rfl,rfl,SqL.of M,D9 (j:=1) rfl,rfl,rfl,SqL.of M,D9 (j:=2) rfl,rfl,rfl,SqL.of M,D9 (j:=3) rfl,fun x yr n1 n2 ne=>C4f T n1 n2 ne ?_⟩
   revert k
   cases mkC (F.vals v).1 (A3u (F.vals v).2.1) (F.vals v).2.2.1 (F.vals v).2.2.2 with
   |ok A=>exact fun k a' b' g U J nb ct=>⟨x,A,a',b',rfl,s2.trans U,s2.free n1,ct,rfl⟩
   |noline=>exact fun k g U=> .inl ⟨R.s33,fun a t T J=>k _ (s2.trans (U.trans (C9.upd J)))⟩
   |nocount=>exact fun k g U=> .inl ⟨R.s33,fun a t T J=>k _ (s2.trans (U.trans (C9.upd J)))⟩
   |bad=>exact fun k g U=> .inl ⟨R.s33,fun a t T J=>k _ (s2.trans (U.trans (C9.upd J)))⟩
 rintro d H3 ⟨s,A,a',b',ek,s3,nc,xy,rfl⟩
 rw[ek] at k
 have k:∀s a' b' g,C9 H g ->H s=none ->H a'=none ->H b'=none ->U5 G g s A a' b' xs ys ->Q (.ref s) g:=k
 obtain⟨yr,yq⟩:=xy.ins
 have yp:=s3 _ _ ec
 have yk:=X.same s3
 refine⟨fun d g=>∃N,Exc s H3 g/\H N=none/\U5 G g s A N b' xs []/\d=st4 c l (some (.ref p)) (some (.ref s)),?_,?_⟩
 . refine⟨rfl,yq,A0t,rfl,yp,A4j,c,v.r,v.y,v.l,v.m,a,b,_,_,rfl,yk,fun p I=>?_⟩
   have u:=C9.upd (o:= .lst (xs.map V.str)) I
   have hl:hit [] xs=none:=rfl
   refine⟨s,A.r,A.y,A.l,A.m,a',b',[],[],.ref p,rfl,xy.same u,by show 0+100<=1000;decide,.inl ⟨p,xs,rfl,A6,by have:=B2j ox;lia,A3q ox,fun _ N H4 x4 J ct=>?_,fun t ht=>by rw[hl] at ht;cases ht⟩⟩
   rw[kL,ox] at ct
   exact⟨N,(Exc.of u).trans x4,(s3.trans u).free J,ct,rfl⟩
 rintro d H4 ⟨N,x4,yh,xx,rfl⟩
 have keep:∀q o,H q=some o ->H4 q=some o:=fun q o e=>x4 _ _ (s3 _ _ e) (D6 e nc)
 obtain⟨zd,yo⟩:=xx.ins
 have L:U5 G H4 c v a b xs ys:=X.same keep
 obtain⟨zc,yn⟩:=L.ins
 refine⟨fun d g=>∃b2,Exc s H4 g/\H b2=none/\U5 G g s A N b2 xs ys/\d=st4 c l (some (.ref p)) (some (.ref s)),?_,?_⟩
 . refine⟨rfl,yo,A3t,rfl,yn,B3g _ _ _ _ _ _,c,v.r,v.y,v.l,v.m,a,b,_,_,rfl,L,fun p I=>?_⟩
   have u:=C9.upd (o:= .lst (ys.map V.str)) I
   refine⟨s,A.r,A.y,A.l,A.m,N,b',_,_,.ref p,rfl,xx.same u,.inl ⟨p,ys,rfl,A6,A3q oy,fun b2 H5 x5 nb ct=>?_⟩⟩
   rw[oy] at ct
   exact⟨b2,(Exc.of u).trans x5,(C9.trans keep u).free nb,ct,rfl⟩
 rintro d H5 ⟨b2,x5,xz,yj,rfl⟩
 exact k s N b2 H5 (fun q o e=>x5 _ _ (keep _ _ e) (D6 e nc)) nc yh xz yj
end
abbrev D4x:Stmt:=(top 144)
def B5u(s:DSt)(r:Nm×List Str):Str×DSt:=match hit s.ys r.2 with
 |none=>(S (wrL r.1),⟨s.v,V7 (s.xs++r.2),s.ys⟩)
 |some z=>("trapped "++z,⟨s.v,V7 (s.xs++r.2),s.ys⟩)
def D1f(s:DSt):Chg ->Str×DSt
 | .ok a=>("done",⟨a,s.xs,s.ys⟩)
 |_=>("bad context",s)
def J9w:List (Str×Nm) ->Str
 | [p,q]=>B5t p.2 q.2
 |_=>""
def Ln.ans(s:DSt)(ln:Ln):Str×DSt:=match ln with
 | .trap ws=>("done",⟨s.v,s.xs,V7 ws⟩)
 | .flags=>(if s.xs=[] then "none up" else Txt.join " " s.xs,s)
 | .clear=>("done",⟨s.v,[],s.ys⟩)
 | .cnt nm p _ k=>B5u s (CNT nm s.v p.2 k)
 | .op nm ps=>if nm="compare" then(J9w ps,s) else B5u s (RES nm s.v (ps.map (·.2)))
 |ln=>D1f s (ln.chg s.v)
def U6g{o:Int}(h:B3w x y=some o): -1<=o/\o<=1:=by
 have b:∀a b:Int, -1<=D1m a b/\D1m a b<=1:=fun a b=>by
   unfold D1m
   split
   . decide
   . split<;>decide
 unfold B3w at h
 split at h
 . cases h
 split at h<;>(rw[<-bF h];exact b _ _)
def A3g(l:List Str):Txt.join " " l=Str.join " " l:=StrLaws.glued_eq_join " " l
def D0x:∀(x:Str) (r:List Str),x.length<=(Txt.join " " (x::r)).length/\(Txt.join " " (x::r)).length<=((x::r).map (·.length)).sum+(x::r).length
 |x,[]=>by rw[A3g];exact⟨aO _,by show x.length<=x.length+0+1;lia⟩
 | x,y::r=>by
   have h:=D0x y r
   have e:Txt.join " " (x::y::r)=x++(" ":Str)++Txt.join " " (y::r):=by rw[A3g,A3g];exact jT " " x y r
   have b:(" ":Str).length=1:=by decide+kernel
   rw[e,aK,aK,cX,jD,bK (a:=x)]
   lia
def D2p{z:Str}(a:V7 ys=ys)(h:hit ys zs=some z):z.length<=100:=
 (by decide+kernel:∀z∈A1d,z.length<=100) z (A3q a z (jW h))
def U6f{v:Cv}{c:Ln}(ok:v.Ok)(b:c.Ok)(d:c.reck):W32 (c.res v).1:=by
 cases c with
 | cnt nm p y k=>
   obtain⟨l,f,g,ct,k0,k1,e⟩:=b
   show W32 (CNT nm v p.2 k).1
   unfold CNT
   split
   . rename_i h
     exact U6t ok g.2.2.2 (e h).1 (e h).2
   . exact U5u ok g.2.2.2.ok
 | op nm ps=>
   obtain⟨f,j⟩:=b
   have a:∀p∈ps,p.2.Sm:=fun p i=>(f p i).2.2.2.2
   match ps,j with
   | [p],_=>exact J7n ok (a p aH)
   | [p,q],_=>exact J7k ok (a p aH).ok (a q (aJ _ aH)).ok
   | [p,q,r],_=>exact U7d ok (a p aH).ok (a q (aJ _ aH)).ok (a r (aJ _ (aJ _ aH))).ok
   | [],h=>exact absurd h (by simp)
   |_::_::_::_::_,h=>exact absurd h (by simp)
 |_=>exact d.elim
def V1c(f:Addr)(H:Hp)(c a b:Addr)(Q:VK)(r:Str×DSt):Prop:=∀t d a' b' e,Exc c H e ->H t=none ->e t=some (.tup [.str r.1,.ref d]) ->U5 f e d r.2.v a' b' r.2.xs r.2.ys ->NwL H a b a' b' ->(d=c\/H d=none) ->Q (.ref t) e
section
variable{P:Program}{w:World}{K:Frag}{Y:Str ->Option Value}{Z:Heap}
inductive G4s(e:Addr)(vs:List V)(H:Hp)(Q:VK)(_:XK):Prop
 |mk(c a b s l) (d:Ln)(_:vs=[.ref c,.ref l])(_:U5 e H c s.v a b s.xs s.ys)(_:s.Ok)(_:H l=some (.lst (d.ws.map V.str)))(_:d.Ok)(_:V1c e H c a b Q (d.ans s))
def scLAns:B9 ["_law_context","_law_words","_law_made","_law_found","e"] ["_law_context","_law_words"] (A5 D4x):=scK
def J3u(D:Def K Y "_law_answer" ["_law_context","_law_words"] D4x f fd)(yi:Def K Y "_law_set" ["_law_context","_law_words"] C1y f1 yy)(yh:B0 P w K Y Z (CX1 P w) 5 f1 yy ["_law_context","_law_words"] (D5m CC))(J:Def K Y "_law_reckoned" ["_law_context","_law_words"] C2x f2 yx)(F:B0 P w K Y Z (CX1 P w) 10 f2 yx ["_law_context","_law_words"] (D5b CN CC CT))(xz:Def K Y "read" ["text"] B7t f3 yw)(xy:B0 P w K Y Z (CX1 P w) 5 f3 yw ["text"] (B8v CN))(xx:Def K Y "written" ["number"] A5x f4 yu)(xw:B0 P w K Y Z (CX1 P w) 3 f4 yu ["number"] (A6n K CN CB))(xu:Def K Y "compared" ["one","other"] A3d f5 yt)(X:B0 P w K Y Z (CX1 P w) 4 f5 yt ["one","other"] (A5j K CN zh))(R:D5j K Y C2 C3 C4 CT)(C:B3p K Y CC)(MF:Has P w K Y Z CC "flags" 1 ["self"] (A3j CC))(ME:Has P w K Y Z CC "clear" 1 ["self"] (A7n CC))(MT:Has P w K Y Z CC "trap" 2 ["self","names"] (B4u K CC C3)):B0 P w K Y Z (CX1 P w) 11 f fd ["_law_context","_law_words"] (G4s CC):=by
 refine okZ D.F scLAns ?_
 rintro _ _ _ s H _ Q E hr hx⟨c,a,b,s,l,O,rfl,hc,ok,el,M,k⟩
 obtain⟨ff,zc,mf,gf,bf⟩:=MF
 obtain⟨fe,zd,me,ge,be⟩:=ME
 obtain⟨ft,zb,mt,gt,bt⟩:=MT
 refine⟨_,(A2 (D3 (B5 A1c (G7 G4 (pv 1) A4 (fun _ _=>rfl)) (A0s (A0 A9 (A0 A9 (A0 A9 A1)))) (by rfl)) (A2 (psz (i:=2) scLAns.nd (B7 yi yh hr hx (A0 (pv 0) (A0 (pv 1) A1)))) (A3 (A7 (G6 (B5 B4k (pv 2) A8d B8) (A0s (A0 A9 (A0 (pv 0) A1))) (A0s (A0 A9 (A0 (pv 2) A1))))))) C0) (A2 (D3 (B5 D5 (G7 G4 (pv 1) A4 (fun _ _=>rfl)) A9 B8) (A2 (J9 (A2z (pv 0) C.cl mt gt hr bt .nil hx (A0 (Z8 A3n (pv 1) (A0p A4) A0q) A1))) (A3 (A7 (A0s (A0 A9 (A0 (pv 0) A1)))))) C0) (A2 (D3 (B5 D5 (G7 G4 (pv 1) A4 (fun _ _=>rfl)) A9 B8) (A3 (A7 (A0s (A0 (G2a (A1x PySem.F.plainAttrs_str PySem.F.slot_str_join PySem.F.type_str_join B3f A9 (A0 (Y6 (pv 0) C.cl mf gf hr bf .nil hx) A1)) (A3y A9)) (A0 (pv 0) A1))))) C0) (A2 (D3 (B5 D5 (G7 G4 (pv 1) A4 (fun _ _=>rfl)) A9 B8) (A2 (J9 (Y6 (pv 0) C.cl me ge hr be .nil hx)) (A3 (A7 (A0s (A0 A9 (A0 (pv 0) A1)))))) C0) (A2 (D3 (B5 D5 (G7 G4 (pv 1) A4 (fun _ _=>rfl)) A9 B8) (A2 (psz (i:=3) scLAns.nd (B7 xu X hr hx (A0 (B7 xz xy hr hx (A0 (G7 G4 (pv 1) A4 (fun _ _=>rfl)) A1)) (A0 (B7 xz xy hr hx (A0 (G7 G4 (pv 1) A4 (fun _ _=>rfl)) A1)) A1)))) (A3 (A7 (A0s (A0 (G6 (B5 B4k (pv 3) A8d B8) A9 (G7 G4 (G8 (A0 A9 (A0 A9 (A0 A9 A1)))) (D0 V8 (pv 3) A4) (fun _ _=>rfl))) (A0 (pv 0) A1)))))) C0) (A3 (C4h ⟨rfl,rfl,rfl⟩ (fun yn Ew zg hc=>(A3 (A7 (A0s (A0 (B7 xx xw hr hc (A0 (B7 J F hr hc (A0 (pv 0) (A0 (pv 1) A1))) A1)) (A0 (pv 0) A1)))))) (J7e R.gT R.cT scLAns.nd (i:=4) rfl rfl (fun yn a=>(A3 (A7 (A0s (A0 (D0 V1 A9 (C7d (K:=K) rfl (pv 4) rfl)) (A0 (pv 0) A1)))))) C1z)))))))),?_⟩
 have z3:3<=sizeLine:=C6 (by decide)
 have z2:2<=sizeLine:=C6 (by decide)
 obtain⟨dx,ec⟩:=hc.ins
 obtain⟨L,wr,ew⟩:∃L wr,O.ws=L::wr:=by cases O<;>exact⟨_,_,rfl⟩
 have A:atI (O.ws.map V.str) 0=some (.str L):=by rw[ew];exact D9 (j:=0) rfl
 refine⟨rfl,rfl,SqL.of el,A,z3,fun p np=>?_⟩
 have u:=C9.upd (o:= .tup [.str "room",.str "way",.str "bounds"]) np
 refine⟨p,_,rfl,.inr (SqT.of A6),rfl,rfl,rfl,?_⟩
 rw[aA aB,show inV (.str L) [.str "room",.str "way",.str "bounds"]=(["room","way","bounds"]:List Str).contains L from A1p L ["room","way","bounds"]]
 generalize upd H p (.tup [.str "room",.str "way",.str "bounds"])=G at u
 have n:=hc.same u
 have g:=u _ _ el
 obtain⟨ze,xv⟩:=n.ins
 have all:∀x∈G4r,(["room","way","bounds"]:List Str).contains x=false/\x≠"trap"/\x≠"flags"/\x≠"clear":=by decide+kernel
 have fin:∀{r:Str×DSt} {c' a' b':Addr} {I:Hp},O.ans s=r ->Exc c G I ->(∃o,I c=some o) ->U5 CC I c' r.2.v a' b' r.2.xs r.2.ys ->NwL H a b a' b' ->(c'=c\/H c'=none) ->∀t,I t=none ->Q (.ref t) (upd I t (.tup [.str r.1,.ref c'])):=fun{r c' a' b' I} e x hg ct nw nc t B=>by
   subst e
   have ht:H t=none:=by
     cases h:H t with
     |none=>rfl
     | some o=>
       by_cases yo:t=c
       . obtain⟨o,eo⟩:=hg
         rw[yo,eo] at B
         cases B
       . rw[x _ _ (u _ _ h) yo] at B
         cases B
   exact k t c' a' b' _ ((Exc.of u).trans (x.trans (Exc.of (C9.upd B)))) ht A6 (ct.same (C9.upd B)) nw nc
 by_cases hs:O.sets
 . have yq:(["room","way","bounds"]:List Str).contains L=true:=by
     cases O<;>first|exact hs.elim|(injection ew with e1 _;rw[<-e1];decide+kernel)
   have ea:O.ans s=D1f s (O.chg s.v):=by cases O<;>first|exact hs.elim|rfl
   rw[yq]
   refine Y9 ⟨c,s.v,a,b,s.xs,s.ys,l,O,rfl,n,ok.x,ok.y,g,M,hs,?_⟩
   revert ea
   cases O.chg s.v with
   |ok v'=>exact fun ea c' a' b' I N nc na nb ct=>⟨rfl,rfl,Y0 (fun q=>nomatch q) ⟨z2,fun t B=>fin ea (Exc.of N) ⟨_,N _ _ xv⟩ ct (fun z W _ _=>⟨C0e W (u.free na),C0e W (u.free nb)⟩) (.inr (u.free nc)) t B⟩⟩
   |noline=>exact fun ea I N=>⟨rfl,rfl,Y8 rfl ⟨z2,fun t B=>fin ea (Exc.of N) ⟨_,N _ _ xv⟩ (n.same N) (NwL.refl _ _ _) (.inl rfl) t B⟩⟩
   |nocount=>exact fun ea I N=>⟨rfl,rfl,Y8 rfl ⟨z2,fun t B=>fin ea (Exc.of N) ⟨_,N _ _ xv⟩ (n.same N) (NwL.refl _ _ _) (.inl rfl) t B⟩⟩
   |bad=>exact fun ea I N=>⟨rfl,rfl,Y8 rfl ⟨z2,fun t B=>fin ea (Exc.of N) ⟨_,N _ _ xv⟩ (n.same N) (NwL.refl _ _ _) (.inl rfl) t B⟩⟩
 have skip:∀{t:Str},L≠t ->¬V.str L=V.str t:=fun h q=>h (V.str.inj q)
 have cc:∀{v:Cv} {a b:Addr} {xs ys:List Str} {I:Hp},U5 CC I c v a b xs ys ->∃o,I c=some o:=fun h=>by obtain⟨d,e⟩:=h.ins;exact⟨_,e⟩
 by_cases U:O.reck
 . have ea:O.ans s=B5u s (O.res s.v):=by
     cases O<;>first|exact U.elim|rfl|exact aA U
   have hw:((["room","way","bounds"]:List Str).contains L=false/\L≠"trap"/\L≠"flags"/\L≠"clear")/\L≠"compare":=by
     cases O with
     | cnt nm p y m=>
       obtain rfl:nm=L:=by injection ew
       rcases M.1 with rfl|rfl<;>decide+kernel
     | op nm ps=>
       obtain rfl:nm=L:=by injection ew
       refine⟨all nm ?_,U⟩
       have o1:∀x∈B1e,x∈G4r:=by decide+kernel
       rcases M.2 with h|h|h
       . exact o1 nm h.1
       . exact aZ _ h.1
       . rw[h.1];decide+kernel
     |_=>exact U.elim
   obtain⟨⟨h0,h1,h2,h3⟩,h4⟩:=hw
   rw[h0]
   refine V4 ⟨rfl,rfl,SqL.of g,A,rfl,rfl,Y0 (skip h1) ⟨rfl,rfl,SqL.of g,A,rfl,rfl,Y0 (skip h2) ⟨rfl,rfl,SqL.of g,A,rfl,rfl,Y0 (skip h3) ⟨rfl,rfl,SqL.of g,A,rfl,rfl,Y0 (skip h4) ?_⟩⟩⟩⟩
   refine⟨c,s.v,a,b,s.xs,s.ys,l,O,rfl,n,ok.v,ok.x,g,M,U,fun hh m a' I nw x ct yp=>⟨_,rfl,.inl ⟨m,_,rfl,yp,U6f ok.v M U,?_⟩⟩,fun z W a' d I nw x ct ed=>?_⟩
   . unfold B5u at ea
     rw[hh] at ea
     exact⟨z2,fun t B=>fin (a':=a') (b':=b) ea x (cc ct) ct (fun z W g1 g2=>⟨nw z (fun e=>W (u.free e)) ⟨s.v,a,b,s.xs,s.ys,n,g1⟩,g2⟩) (.inl rfl) t B⟩
   . unfold B5u at ea
     rw[W] at ea
     refine .inl ⟨R.tT,fun x' t T nx=>?_⟩
     have ux:=C9.upd (o:= .frz (A1u (.ref CT) t (some d) (.ref T)) (.own x')) nx
     have lz:=D2p ok.y W
     refine⟨x',CT,_,_,d,_,_,_,rfl,A6,ux _ _ ed,R.k,R.dict,R.nosig,rfl,_,_,rfl,rfl,C6 (by rw[show("trapped ":Str).length=8 by decide+kernel];lia),z2,fun t B=>fin (a':=a') (b':=b) ea (x.trans (Exc.of ux)) (cc (ct.same ux)) (ct.same ux) (fun z W g1 g2=>⟨nw z (fun e=>W (u.free e)) ⟨s.v,a,b,s.xs,s.ys,n,g1⟩,g2⟩) (.inl rfl) t B⟩
 cases O with
 | trap ws=>
   obtain rfl:"trap"=L:=by injection ew
   rw[show(["room","way","bounds"]:List Str).contains "trap"=false by decide+kernel]
   refine V4 ⟨rfl,rfl,SqL.of g,A,rfl,rfl,Y8 rfl ⟨rfl,xv,A3t,1,rfl,l,_,rfl,SqL.of g,fun q nq=>?_⟩⟩
   have u2:=C9.upd (o:= .lst (A3v ((Ln.trap ws).ws.map V.str) (some 1) none)) nq
   have e1:A3v ((Ln.trap ws).ws.map V.str) (some 1) none=ws.map V.str:=A9t _ 1
   refine⟨c,s.v.r,s.v.y,s.v.l,s.v.m,a,b,_,_,_,rfl,n.same u2,.inl ⟨q,ws,rfl,by rw[A6,e1],M.1,fun b' I x nb ct=>⟨z2,fun t B=>fin (a':=a) (b':=b') rfl ((Exc.of u2).trans x) (cc ct) ct (NwL.b ((u.trans u2).free nb)) (.inl rfl) t B⟩⟩⟩
 | flags=>
   obtain rfl:"flags"=L:=by injection ew
   rw[show(["room","way","bounds"]:List Str).contains "flags"=false by decide+kernel]
   refine V4 ⟨rfl,rfl,SqL.of g,A,rfl,rfl,Y0 (skip (by decide+kernel)) ⟨rfl,rfl,SqL.of g,A,rfl,rfl,Y8 rfl ⟨rfl,rfl,xv,A4j,c,s.v.r,s.v.y,s.v.l,s.v.m,a,b,_,_,rfl,n,fun q nq=>?_⟩⟩⟩
   have u2:=C9.upd (o:= .lst (s.xs.map V.str)) nq
   have os:=D4m ok.x
   refine⟨_,q,s.xs,rfl,rfl,SqL.of A6,A8j os,_,rfl,?_⟩
   have fl:∀z:Str,(if s.xs=[] then("none up":Str) else Txt.join " " s.xs)=z ->∀t,upd G q (.lst (s.xs.map V.str)) t=none ->Q (.ref t) (upd (upd G q (.lst (s.xs.map V.str))) t (.tup [.str z,.ref c])):=fun z W t B=>fin (r:=(z,s)) (a':=a) (b':=b) (by rw[<-W];rfl) (Exc.of u2) (cc (n.same u2)) (n.same u2) (NwL.refl _ _ _) (.inl rfl) t B
   cases ym:s.xs with
   | nil=>
     rw[ym] at fl
     exact⟨by decide+kernel,by rw[aC (by decide+kernel)];exact⟨z2,fl _ (aC rfl)⟩⟩
   | cons x r=>
     have jb:=D0x x r
     have lx:=(by decide+kernel:∀z∈A1d,1<=z.length) x (A3q ok.x x (by rw[ym];exact aH))
     rw[ym] at fl os
     refine⟨by lia,?_⟩
     rw[aA (by lia)]
     exact⟨z2,fl _ (aA fun q=>nomatch q)⟩
 | clear=>
   obtain rfl:"clear"=L:=by injection ew
   rw[show(["room","way","bounds"]:List Str).contains "clear"=false by decide+kernel]
   exact V4 ⟨rfl,rfl,SqL.of g,A,rfl,rfl,Y0 (skip (by decide+kernel)) ⟨rfl,rfl,SqL.of g,A,rfl,rfl,Y0 (skip (by decide+kernel)) ⟨rfl,rfl,SqL.of g,A,rfl,rfl,Y8 rfl ⟨rfl,xv,B2a _ _ _ _ _ _,c,s.v.r,s.v.y,s.v.l,s.v.m,a,b,_,_,rfl,n,fun a' I x na ct=>⟨z2,fun t B=>fin (a':=a') (b':=b) rfl x (cc (v:=s.v) (xs:=[]) (ys:=s.ys) ct) ct (NwL.a (u.free na)) (.inl rfl) t B⟩⟩⟩⟩⟩
 | op nm ps=>
   have yr:nm="compare":=aX U
   obtain rfl:nm=L:=by injection ew
   subst yr
   have l2:ps.length=2:=by
     rcases M.2 with h|h|h
     . exact absurd h.1 (by decide+kernel)
     . exact h.2
     . exact absurd h.1 (by decide+kernel)
   obtain⟨p1,p2,rfl⟩:=ll2 l2
   have r1:=(M.1 p1 aH).2
   have r2:=(M.1 p2 (aJ _ aH)).2
   rw[show(["room","way","bounds"]:List Str).contains "compare"=false by decide+kernel]
   refine V4 ⟨rfl,rfl,SqL.of g,A,rfl,rfl,Y0 (skip (by decide+kernel)) ⟨rfl,rfl,SqL.of g,A,rfl,rfl,Y0 (skip (by decide+kernel)) ⟨rfl,rfl,SqL.of g,A,rfl,rfl,Y0 (skip (by decide+kernel)) ⟨rfl,rfl,SqL.of g,A,rfl,rfl,Y8 rfl ?_⟩⟩⟩⟩
   refine⟨rfl,rfl,SqL.of g,D9 (j:=1) rfl,p1.1,p1.2,rfl,r1.1,r1.2.1,r1.2.2.1,fun n1 G1 za s1 yk=>⟨rfl,rfl,SqL.of (s1 _ _ g),D9 (j:=2) rfl,p2.1,p2.2,rfl,r2.1,r2.2.1,r2.2.2.1,fun n2 G2 yz s2 yj=>?_⟩⟩
   refine⟨_,_,rfl,.inl ⟨n1,n2,p1.2,p2.2,rfl,rfl,yk.same s2,yj,r1.2.2.2.ok,r2.2.2.2.ok,fun G3 s3=>?_⟩⟩
   have sm:=s1.trans (s2.trans s3)
   have fc:∀{I:Hp} (z:Str),C9 G I ->B5t p1.2 p2.2=z ->∀t,I t=none ->Q (.ref t) (upd I t (.tup [.str z,.ref c])):=fun z N W t B=>fin (r:=(z,s)) (a':=a) (b':=b) (by rw[<-W];rfl) (Exc.of N) (cc (n.same N)) (n.same N) (NwL.refl _ _ _) (.inl rfl) t B
   unfold B5t at fc
   cases W:B3w p1.2 p2.2 with
   | none=>
     rw[W] at fc
     exact⟨rfl,rfl,Y8 rfl ⟨z2,fc _ sm rfl⟩⟩
   | some o=>
     rw[W] at fc
     have cb:=U6g W
     rcases(by lia:o= -1\/o=0\/o=1) with rfl|rfl|rfl<;>exact⟨rfl,rfl,Y0 (fun q=>nomatch q) ⟨z3,fun q nq=>⟨rfl,rfl,SqL.of A6,rfl,z2,fc _ (sm.trans (C9.upd nq)) rfl⟩⟩⟩
 |cnt nm p y m=>exact absurd trivial U
 |_=>exact absurd trivial hs
end
def D3n:∀{a b u v:List Nat},32 ∉ a ->32 ∉ b ->(u=[]\/∃i,u=32::i) ->(v=[]\/∃g,v=32::g) ->a++u=b++v ->a=b/\u=v
 | [],[],_,_,_,_,_,_,h=>⟨rfl,h⟩
 | [],b::bs,u,v,_,e,d,_,h=>by
   rcases d with rfl|⟨i,rfl⟩
   . exact nomatch h
   . injection h with h _
     exact absurd (h▸aH) e
 | a ::n,[],u,v,f,_,_,c,h=>by
   rcases c with rfl|⟨g,rfl⟩
   . exact nomatch h
   . injection h with h _
     exact absurd (h▸aH) f
 | a::n,b::bs,u,v,f,e,d,c,h=>by
   injection h with k j
   obtain⟨m,l⟩:=D3n (fun q=>f (aJ _ q)) (fun q=>e (aJ _ q)) d c j
   exact⟨by rw[k,m],l⟩
def J8p:(" ":Str)=⟨#[32]⟩:=by decide+kernel
def D3a:List Str ->List Nat
 | []=>[]
 |x::r=>32::(Str.join " " (x::r)).cps.toList
def D1k(x:Str)(r:List Str):(Str.join " " (x::r)).cps.toList=x.cps.toList++D3a r:=by
 cases r with
 |nil=>exact(cP _).symm
 | cons y r=>
   rw[jT,jO,iA,jO,iA,J8p]
   simp[D3a,J8p]
def G4c:∀r:List Str,D3a r=[]\/∃u,D3a r=32::u
 | []=> .inl rfl
 |_::_=> .inr ⟨_,rfl⟩
def C7s:∀{ps ws:List Str},ps≠ [] ->ws≠ [] ->(∀z∈ps,32 ∉ z.cps.toList) ->(∀z∈ws,32 ∉ z.cps.toList) ->(Str.join " " ps).cps.toList=(Str.join " " ws).cps.toList ->ps=ws
 | [],_,h,_,_,_,_=>absurd rfl h
 |_::_,[],_,h,_,_,_=>absurd rfl h
 | p ::ps,w::ws,_,_,g,f,h=>by
   rw[D1k,D1k] at h
   obtain⟨b,a⟩:=D3n (g p aH) (f w aH) (G4c ps) (G4c ws) h
   have b:p=w:=by rw[<-B0e p, <-B0e w,b]
   cases ps with
   | nil=>
     cases ws with
     |nil=>rw[b]
     |cons _ _=>exact nomatch a
   | cons j d=>
     cases ws with
     |nil=>exact nomatch a
     | cons i c=>
       injection a with _ a
       have:=C7s (ps:=j::d) (ws:=i::c) (by simp) (by simp) (fun z e=>g z (aJ _ e)) (fun z e=>f z (aJ _ e)) a
       rw[b,this]
def J4c(c:ws≠ [])(b:∀z∈ws,Wd z):Txt.split (Txt.join " " ws) " "=ws:=by
 have d:∀z∈ws,32 ∉ z.cps.toList:=fun z a q=>((b z a).b 32 q).1 rfl
 have e:=StrLaws.join_split (Txt.join " " ws) " "
 refine C7s (fun q=>?_) c (fun z a=>?_) d (by rw[e,A3g])
 . rw[q,A3g] at e
   cases ws with
   |nil=>exact c rfl
   | cons x r=>
     have h:=aM (fun z:Str=>z.cps.toList) e
     rw[D1k] at h
     exact(b x aH).n (fu.mp h.symm).1
 rw[J8p] at a
 exact StrLaws.split_free _ 32 z a
def Ln.dw:Ln ->List Str
 | .way z=>"way"::Txt.split z " "
 | .op nm ps=>Txt.split nm " "++ps.map (·.1)
 |ln=>ln.ws
def J6m{z:Str}(h:(decide (z.cps.toList≠ [])&&(z.cps.toList.all (fun c=>decide (c≠32)&&decide (c<128))&&decide (z.length<=60)))=true):Wd z:=by
 simp only[cK,decide_eq_true_eq,kF] at h
 exact⟨h.1,h.2.1,h.2.2⟩
def opS:List Str:=B1e++C5a++(["fused"]:List Str)
def wdB(z:Str):Bool:=decide (z.cps.toList≠ [])&&(z.cps.toList.all (fun c=>decide (c≠32)&&decide (c<128))&&decide (z.length<=60))
def J8q:∀nm∈opS++C4u++A1d++(["room","way","bounds","trap","flags","clear","power","scaled"]:List Str),∀z∈Txt.split nm " ",wdB z=true:=by decide+kernel
def D9u(h:nm∈opS++C4u++A1d++(["room","way","bounds","trap","flags","clear","power","scaled"]:List Str)):∀z∈Txt.split nm " ",Wd z:=fun z a=>J6m (J8q nm h z a)
def U0m:∀nm∈A1d++(["room","way","bounds","trap","flags","clear","power","scaled"]:List Str),wdB nm=true:=by decide+kernel
def nmB(nm:Str)(n:Nat):Bool:=(match Txt.split nm " " with
 | [a]=>decide (a=nm)&&NUM.any fun p=>p.1=nm
 | [a,_]=> !(NUM.any fun p=>p.1=a)
 |_=>false)&&(decide (G0n NUM nm= .int (n:Int))&&(!(["room","way","bounds","trap","flags","clear","power","scaled"]:List Str).contains ((Txt.split nm " ").getD 0 "")&&decide (nm="fused"↔n=3)))
def nm_ok:(∀nm∈B1e,nmB nm 1=true)/\(∀nm∈C5a,nmB nm 2=true)/\nmB "fused" 3=true:=by decide+kernel
def A9p(h:r≠ []):Str.join " " (x::r)=x++(" ":Str)++Str.join " " r:=by
 cases r with
 |nil=>exact absurd rfl h
 |cons y r=>exact jT " " x y r
def J9u(a b c:Str):a++b++c=a++(b++c):=by
 rw[<-B0e a, <-B0e b, <-B0e c,A0g,A0g,A0g,A0g,gQ]
def C7k:∀{l r:List Str},l≠ [] ->r≠ [] ->Str.join " " (l++r)=Str.join " " l++(" ":Str)++Str.join " " r
 | [],_,h,_=>absurd rfl h
 | [x],r,_,h=>A9p h
 | x::y::l,r,_,h=>by
   rw[show(x::y::l)++r=x::((y::l)++r) from rfl,A9p (by simp),C7k (l:=y::l) (by simp) h,A9p (r:=y::l) (by simp)]
   simp only[J9u]
def G0p:∀nm∈opS++C4u,Txt.split nm " "≠ []/\(Txt.split nm " ").length<=2:=by decide+kernel
def Ln.words{c:Ln}(a:c.Ok):Txt.join " " c.ws=Txt.join " " c.dw/\(∀z∈c.dw,Wd z)/\c.dw≠ []/\c.dw.length<=9:=by
 have b:∀nm∈A1d++(["room","way","bounds","trap","flags","clear","power","scaled"]:List Str),Wd nm:=fun nm h=>J6m (U0m nm h)
 cases c with
 |room y k=>exact⟨rfl,aU.2 ⟨b _ (by decide+kernel),aU.2 ⟨a.w,fun _ h=>nomatch h⟩⟩,(fun h=>nomatch h),by show 2<=9;decide⟩
 |bounds n m k1 k2=>exact⟨rfl,aU.2 ⟨b _ (by decide+kernel),aU.2 ⟨a.1.w,aU.2 ⟨a.2.w,fun _ h=>nomatch h⟩⟩⟩,(fun h=>nomatch h),by show 3<=9;decide⟩
 |trap ws=>exact⟨rfl,aU.2 ⟨b _ (by decide+kernel),fun z e=>b z (aZ _ (a.1 z e))⟩,(fun h=>nomatch h),cY a.2⟩
 |flags=>exact⟨rfl,aU.2 ⟨b _ (by decide+kernel),fun _ h=>nomatch h⟩,(fun h=>nomatch h),by show 1<=9;decide⟩
 |clear=>exact⟨rfl,aU.2 ⟨b _ (by decide+kernel),fun _ h=>nomatch h⟩,(fun h=>nomatch h),by show 1<=9;decide⟩
 | cnt nm p y k=>
   refine⟨rfl,aU.2 ⟨?_,aU.2 ⟨a.2.1,aU.2 ⟨a.2.2.2.1.w,fun _ h=>nomatch h⟩⟩⟩,(fun h=>nomatch h),by show 3<=9;decide⟩
   rcases a.1 with rfl|rfl<;>exact b _ (by decide+kernel)
 | way z=>
   have d:z∈opS++C4u:=bJ _ a
   have sp:=G0p z d
   refine⟨?_,aU.2 ⟨b _ (by decide+kernel),D9u (aZ _ (aZ _ d))⟩,(fun h=>nomatch h),by show(Txt.split z " ").length+1<=9;lia⟩
   show Txt.join " " ["way",z]=Txt.join " " ("way"::Txt.split z " ")
   rw[A3g,A3g,A9p sp.1,StrLaws.join_split,A9p (by simp)]
   rfl
 | op nm ps=>
   obtain⟨j,i⟩:=a
   have l:nm∈opS:=by
     rcases i with h|h|h
     . exact aZ _ (aZ _ h.1)
     . exact aZ _ (bJ _ h.1)
     . exact bJ _ (bE.mpr h.1)
   have d:nm∈opS++C4u:=aZ _ l
   have sp:=G0p nm d
   have o:1<=ps.length/\ps.length<=3:=by rcases i with h|h|h<;>(have:=h.2;lia)
   have g:ps.map (·.1)≠ []:=fun q=>by
     have:=aM List.length q
     rw[aP] at this
     have:ps.length=0:=this
     lia
   refine⟨?_,fun z e=>?_,fun q=>sp.1 (fu.mp q).1,by show(Txt.split nm " "++ps.map (·.1)).length<=9;rw[aG,aP];lia⟩
   . show Txt.join " " (nm::ps.map (·.1))=Txt.join " " (Txt.split nm " "++ps.map (·.1))
     rw[A3g,A3g,C7k sp.1 g,StrLaws.join_split,A9p g]
   . rcases bO.mp e with h|h
     . exact D9u (aZ _ (aZ _ d)) z h
     . obtain⟨p,f,rfl⟩:=eK.mp h
       exact(j p f).1
def D1n:∀{l:List Str},(∀z∈l,Wd z) ->(l.map (·.length)).sum<=60*l.length
 | [],_=>aO _
 | z::l,h=>by
   have a:=(h z aH).l
   have b:=D1n fun z c=>h z (aJ _ c)
   simp only[cX,jD,bK]
   lia
def B7q:V7 (V7 us)=V7 us:=by
 unfold V7
 refine List.filter_congr fun z a=>?_
 rw[iD,dO,jH]
 exact⟨fun x=>x.2,fun x=>⟨a,x⟩⟩
def Ln.fits{a:Ln}(d:a.Ok):Fit a.dw/\a.dw.contains ""=false/\(Txt.join " " a.ws).length<=900/\Txt.split (Txt.join " " a.ws) " "=a.dw:=by
 obtain⟨e,b,f,k⟩:=a.words d
 have i:=D1n b
 refine⟨⟨f,⟨by lia,fun z j=>?_⟩,by lia⟩,?_,?_,by rw[e];exact J4c f b⟩
 . unfold PyData.strOk
   rw[iU]
   intro c l
   have:=(b z j).b c (gS.mpr l)
   exact aT (by lia)
 . cases h:a.dw.contains "" with
   |false=>rfl
   |true=>exact absurd rfl (b "" (dO.mp h)).n
 rw[e]
 cases g:a.dw with
 |nil=>exact absurd g f
 | cons x r=>
   have:=(D0x x r).2
   rw[g] at i k
   simp only[bK] at*
   lia
def U5w{r l m:Int}{a:Cv}(h:mkC r y l m= .ok a):a.Ok:=by
 unfold mkC at h
 split at h
 . cases h
 split at h
 . rename_i g
   obtain rfl:=Chg.ok.inj h
   exact⟨g.1.1,g.1.2,g.2.1.1,g.2.1.2,g.2.2.1,g.2.2.2⟩
 cases h
def J8h{r l m:Int}:mkC r y l m= .bad\/∃a,mkC r y l m= .ok a:=by
 unfold mkC
 split
 . exact .inl rfl
 split
 . exact .inr ⟨_,rfl⟩
 exact .inl rfl
def B8m{s:DSt}{ws:List Str}(ok:s.Ok)(d:ws.contains ""=false)(a:(["room","way","bounds"]:List Str).contains (ws.getD 0 "")=true)(e:A4v s.v (ws.getD 0 "") (ws.drop 1)=c)(g:c= .bad\/∃b,c= .ok b/\b.Ok):C8c s ws (D1f s c).1 (D1f s c).2/\(D1f s c).2.Ok:=by
 rcases g with rfl|⟨b,rfl,f⟩
 . refine⟨⟨d,.bad,?_,rfl,rfl⟩,ok⟩
   unfold A8u
   rw[aC a,e]
 refine⟨⟨d,.ans "done" b s.xs s.ys,?_,rfl,rfl⟩,⟨f,ok.x,ok.y⟩⟩
 unfold A8u
 rw[aC a,e]
def C6r{s:DSt}{ws:List Str}(ok:s.Ok)(b:ws.contains ""=false)(h:∀q,q=D1r s.v s.xs s.ys r ->A8u s.v s.xs s.ys ws q):C8c s ws (B5u s r).1 (B5u s r).2/\(B5u s r).2.Ok:=by
 have h:=h _ rfl
 unfold D1r at h
 unfold B5u
 cases a:hit s.ys r.2 with
 | none=>
   rw[a] at h
   exact⟨⟨b,_,h,rfl,rfl⟩,⟨ok.v,B7q,ok.y⟩⟩
 | some z=>
   rw[a] at h
   exact⟨⟨b,_,h,D2p ok.y a,rfl,rfl⟩,⟨ok.v,B7q,ok.y⟩⟩
def Ln.desk{s:DSt}{j:Ln}(ok:s.Ok)(d:j.Ok):C8c s j.dw (j.ans s).1 (j.ans s).2/\(j.ans s).2.Ok:=by
 obtain⟨ft,o,_,_⟩:=j.fits d
 have two:∀{r l m:Int} {y:Option Wy},mkC r y l m= .bad\/∃B,mkC r y l m= .ok B/\B.Ok:=fun{r l m y}=>(J8h (r:=r) (l:=l) (m:=m) (y:=y)).imp id fun⟨B,e⟩=>⟨B,e,U5w e⟩
 cases j with
 | room y k=>
   refine B8m (c:=(Ln.room y k).chg s.v) ok o (by show(["room","way","bounds"]:List Str).contains "room"=true;decide+kernel) ?_ two
   show A4v s.v "room" [y]=mkC k (A3u s.v.y.name) s.v.l s.v.m
   unfold A4v
   rw[aC ⟨rfl,rfl⟩,B1w,show A5k ([y].getD 0 "")=some k from d.r]
 | way z=>
   refine B8m (c:=(Ln.way z).chg s.v) ok o (by show(["room","way","bounds"]:List Str).contains "way"=true;decide+kernel) ?_ two
   have sp:=G0p z (bJ _ d)
   show A4v s.v "way" (Txt.split z " ")=mkC s.v.r (A3u z) s.v.l s.v.m
   unfold A4v
   have G:(Txt.split z " ").length=1\/(Txt.split z " ").length=2:=by
     have:(Txt.split z " ").length≠0:=fun q=>sp.1 (jF q)
     lia
   rw[aA (fun q=>absurd q.1 (by decide+kernel)),aC ⟨rfl,G⟩,A3g,StrLaws.join_split]
 | bounds A v k1 k2=>
   refine B8m (c:=(Ln.bounds A v k1 k2).chg s.v) ok o (by show(["room","way","bounds"]:List Str).contains "bounds"=true;decide+kernel) ?_ two
   show A4v s.v "bounds" [A,v]=mkC s.v.r (A3u s.v.y.name) k1 k2
   unfold A4v
   rw[aA (fun q=>absurd q.1 (by decide+kernel)),aA (fun q=>absurd q.1 (by decide+kernel)),aC ⟨rfl,rfl⟩,B1w,show A5k ([A,v].getD 0 "")=some k1 from d.1.r,show A5k ([A,v].getD 1 "")=some k2 from d.2.r]
 | trap ws=>
   refine⟨⟨o,.ans "done" s.v s.xs (V7 ws),?_,rfl,rfl⟩,⟨ok.v,ok.x,B7q⟩⟩
   show A8u s.v s.xs s.ys ("trap"::ws) _
   unfold A8u
   rw[show("trap"::ws:List Str).getD 0 ""="trap" from rfl,aA (by decide+kernel),aC (by decide+kernel),show("trap"::ws:List Str).drop 1=ws from rfl]
   unfold D0f
   rw[aC rfl,aC (kF.mpr fun z U=>dO.mpr (d.1 z U))]
 | flags=>
   refine⟨⟨o,.ans (if s.xs=[] then "none up" else Txt.join " " s.xs) s.v s.xs s.ys,?_,rfl,rfl⟩,ok⟩
   show A8u s.v s.xs s.ys ["flags"] _
   unfold A8u
   rw[show(["flags"]:List Str).getD 0 ""="flags" from rfl,aA (by decide+kernel),aC (by decide+kernel),show(["flags"]:List Str).drop 1=[] from rfl]
   unfold D0f
   rw[aA (by decide+kernel),aA (fun q=>q rfl),aA (by decide+kernel)]
 | clear=>
   refine⟨⟨o,.ans "done" s.v [] s.ys,?_,rfl,rfl⟩,⟨ok.v,(by decide+kernel:V7 []=[]),ok.y⟩⟩
   show A8u s.v s.xs s.ys ["clear"] _
   unfold A8u
   rw[show(["clear"]:List Str).getD 0 ""="clear" from rfl,aA (by decide+kernel),aC (by decide+kernel),show(["clear"]:List Str).drop 1=[] from rfl]
   unfold D0f
   rw[aA (by decide+kernel),aA (fun q=>q rfl),aC rfl]
 | cnt nm p y k=>
   obtain⟨M,P,h3,O,h5,h6,h7⟩:=d
   refine C6r (r:=CNT nm s.v p.2 k) ok o fun q H=>?_
   have J:((["room","way","bounds"]:List Str).contains nm=false/\(["trap","flags","clear"]:List Str).contains nm=false)/\(["power","scaled"]:List Str).contains nm=true:=by rcases M with rfl|rfl<;>decide+kernel
   show A8u s.v s.xs s.ys [nm,p.1,y] q
   unfold A8u
   rw[show([nm,p.1,y]:List Str).getD 0 ""=nm from rfl,J.1.1,aA aB,J.1.2,aA aB,J.2,aC rfl]
   exact⟨p.1,y,p.2,k,rfl,h3,by have:=O.w.l;lia,O.r,h7,h5,h6,H⟩
 | op nm ps=>
   obtain⟨X,I⟩:=d
   obtain⟨n,j,L⟩:∃n,ps.length=n/\nmB nm n=true:=by
     rcases I with h|h|h
     . exact⟨1,h.2,nm_ok.1 nm h.1⟩
     . exact⟨2,h.2,nm_ok.2.1 nm h.1⟩
     . exact⟨3,h.2,by rw[h.1];exact nm_ok.2.2⟩
   have Q:1<=ps.length/\ps.length<=3:=by rcases I with h|h|h<;>(have:=h.2;lia)
   unfold nmB at L
   rw[cK,cK,cK] at L
   obtain⟨g,Z,C,hf⟩:=L
   have R:G5n nm (Txt.split nm " ") ps:={
     w :=by
       have e:=StrLaws.join_split nm " "
       revert g e
       match Txt.split nm " " with
       | [a]=>
         intro g e
         rw[cK] at g
         exact .inl ⟨by rw[fM g.1],g.2⟩
       | [a,b]=>
         intro g e
         exact .inr ⟨a,b,rfl,by simpa using g,by rw[A3g,e]⟩
       | []=>exact fun g=>nomatch g
       |_::_::_::_=>exact fun g=>nomatch g
     n:=by rw[fM Z,j]
     f:=by rw[j];exact fM hf
     c :=fun e=>by
       subst e
       rcases I with h|h|h
       . exact absurd h.1 (by decide+kernel)
       . exact h.2
       . exact absurd h.1 (by decide+kernel)
     l:=Q
     r:=fun p h=>(X p h).2}
   have dn:Txt.split nm " "≠ []:=fun q=>by rw[q] at g;exact nomatch g
   have e0:(Txt.split nm " "++ps.map (·.1)).getD 0 ""=(Txt.split nm " ").getD 0 "":=by
     cases h:Txt.split nm " " with
     |nil=>exact absurd h dn
     |cons _ _=>rfl
   have C:∀t∈(["room","way","bounds","trap","flags","clear","power","scaled"]:List Str),(Txt.split nm " ").getD 0 ""≠t:=fun t W q=>by
     rw[q,dO.mpr W] at C
     exact nomatch C
   have F:∀l:List Str,(∀t∈l,t∈(["room","way","bounds","trap","flags","clear","power","scaled"]:List Str)) ->l.contains ((Txt.split nm " ").getD 0 "")=false:=fun l Y=>by
     cases h:l.contains ((Txt.split nm " ").getD 0 "") with
     |false=>rfl
     |true=>exact absurd rfl (C _ (Y _ (dO.mp h)))
   have sn:((Txt.split nm " ").map (·.length)).sum+(Txt.split nm " ").length<=900:=by
     have:=ft.su
     have e:(Ln.op nm ps).dw=Txt.split nm " "++ps.map (·.1):=rfl
     rw[e,cL,List.sum_append,aG] at this
     lia
   have u:∀q,(nm="compare" ->∃x y,ps.map (·.2)=[x,y]/\q= .ans (B5t x y) s.v s.xs s.ys) ->(nm≠"compare" ->q=D1r s.v s.xs s.ys (RES nm s.v (ps.map (·.2)))) ->A8u s.v s.xs s.ys (Ln.op nm ps).dw q:=fun q M P=>by
     show A8u s.v s.xs s.ys (Txt.split nm " "++ps.map (·.1)) q
     unfold A8u
     rw[e0,F ["room","way","bounds"] (by decide+kernel),aA aB,F ["trap","flags","clear"] (by decide+kernel),aA aB,F ["power","scaled"] (by decide+kernel),aA aB]
     exact⟨nm,_,ps,rfl,R,sn,M,P⟩
   by_cases i:nm="compare"
   . have T:=R.c i
     obtain⟨E,D,rfl⟩:=ll2 T
     have N:(Ln.op nm [E,D]).ans s=(B5t E.2 D.2,s):=aC i
     rw[N]
     exact⟨⟨o,.ans (B5t E.2 D.2) s.v s.xs s.ys,u _ (fun _=>⟨_,_,rfl,rfl⟩) (fun h=>absurd i h),rfl,rfl⟩,ok⟩
   . have N:(Ln.op nm ps).ans s=B5u s (RES nm s.v (ps.map (·.2))):=aA i
     rw[N]
     exact C6r ok o fun q H=>u q (fun h=>absurd h i) fun _=>H
abbrev C2z:Stmt:=(top 145)
def U5e{lo c:Int}{n:Nat}{g:TG}{l:TS}{D:B0h}{a:L2.St}{H:Hp}(h:Nat ->L2.St ->Hp ->Prop)(t:h 0 a H)(r:∀(i:Nat) a H,i<n ->h i a H ->g (.int (lo+i*c)) a H fun b k=>l {D with nx:=h (i+1),ct:=h (i+1),bk:=D.nx} b k)(s:∀a H,h n a H ->D.nx a H):
   ∃ W:Nat ->Nat ->L2.St ->Hp ->Prop,(∃m,W 0 m a H)/\∀i m a H,W i m a H ->
     ((Itq lo c n).stop i H/\D.nx a H)\/((Itq lo c n).go i H/\∃N:L2.St ->Hp ->Prop,(∀d j,N d j ->∃o,o<m/\W (i+1) o d j)/\∀x j,(Itq lo c n).yld i H x j ->g x a j fun b k=>l {D with nx:=N,ct:=N,bk:=D.nx} b k):=by
 refine⟨fun i m a H=>m=n-i/\i<=n/\h i a H,⟨n,by simp,bP _,t⟩,?_⟩
 rintro i m a H ⟨rfl,u,p⟩
 by_cases f:i<n
 . refine .inr ⟨f,h (i+1),fun d j q=>⟨n-(i+1),by lia,rfl,f,q⟩,fun x j y=>?_⟩
   obtain⟨rfl,rfl⟩:=y
   exact r i a _ f p
 have e:i=n:=by lia
 subst e
 exact .inl ⟨aO _,s a H p⟩
def U7u(x:Nm):∀c∈wrL x,Sg c:=by
 have d:=A4n x.f.toNat
 have fd:∀b,∀c∈A5a (fgL x) b,Sg c:=fun b c a=>by
   unfold A5a at a
   rcases bO.mp a with a|a
   . obtain⟨_,rfl⟩:=List.mem_replicate.mp a
     unfold Sg;lia
   . exact A6r d c a
 have f:∀b,∀c∈wpL (fgL x) b,Sg c:=fun b c a=>by
   unfold wpL at a
   split at a
   . exact A6r d c a
   . rcases bO.mp a with q|q
     . exact fd b c (cW q)
     . rcases bM.mp q with rfl|q
       . unfold Sg;lia
       . exact fd b c (fO q)
 have g:∀e,∀c∈wlL (fgL x) e,Sg c:=fun e c a=>by
   unfold wlL at a
   simp only[bO] at a
   rcases a with(((q|q)|q)|q)|q
   . exact A6r d c (cW q)
   . split at q
     . rcases bM.mp q with rfl|q
       . unfold Sg;lia
       . exact A6r d c (fO q)
     . cases q
   . rw[bE.mp q]
     unfold Sg;lia
   . split at q<;>(rw[bE.mp q];unfold Sg;lia)
   . exact A6r (A4n _) c q
 intro c a
 unfold wrL at a
 split at a
 . have:∀c∈C6d,c=110\/c=111\/c=101:=by decide
   have:=this c a
   unfold Sg;lia
 rcases bO.mp a with q|q
 . unfold mkL at q
   split at q
   . rw[bE.mp q]
     unfold Sg;lia
   . cases q
 split at q
 . have:∀c∈G1z,c=101\/c=110\/c=100:=by decide
   have:=this c q
   unfold Sg;lia
 unfold wwL at q
 split at q
 . exact f _ c q
 exact g _ c q
def Lo(z:Str):Prop:=∀c∈z.cps.toList,c<128
noncomputable instance (z:Str):Decidable (Lo z):=by unfold Lo;exact inferInstance
def Lo.app(f:Lo a)(e:Lo b):Lo (a++b):=fun c d=>by
 rw[jO,iA] at d
 exact(bO.mp d).elim (f c) (e c)
def V3h:Lo " ":=by decide+kernel
def C2t:∀{l:List Str},(∀z∈l,Lo z) ->Lo (Str.join " " l)
 | [],_=>fun c b=>nomatch b
 | [x],h=>h x aH
 | x::y::r,h=>by
   rw[jT]
   exact((h x aH).app V3h).app (C2t fun z a=>h z (aJ _ a))
def Lo.ok(h:Lo z):PyData.strOk z=true:=by
 unfold PyData.strOk
 rw[iU]
 intro c a
 have:=h c (gS.mpr a)
 exact aT (by lia)
def G4d:∀z∈A1d,Lo z:=by decide+kernel
def G3r{s:DSt}(a:V7 s.ys=s.ys):Lo (B5u s r).1:=by
 unfold B5u
 cases b:hit s.ys r.2 with
 |none=>exact fun c d=>by have:=U7u r.1 c d;unfold Sg at this;lia
 |some z=>exact Lo.app (by decide+kernel) (G4d z (A3q a z (jW b)))
def U1e:Lo (D1f s c).1:=by
 unfold D1f
 split
 . show Lo "done";decide+kernel
 show Lo "bad context";decide+kernel
def J8t:Lo (B5t x y):=by
 unfold B5t
 split
 . decide+kernel
 split
 . decide+kernel
 split<;>decide+kernel
def Ln.lo{s:DSt}{a:Ln}(ok:s.Ok):Lo (a.ans s).1:=by
 cases a with
 |trap ws=>show Lo "done";decide+kernel
 |clear=>show Lo "done";decide+kernel
 | flags=>
   show Lo (if s.xs=[] then "none up" else Txt.join " " s.xs)
   split
   . decide+kernel
   . rw[A3g]
     exact C2t fun z b=>G4d z (A3q ok.x z b)
 |cnt nm p y k=>exact G3r ok.y
 | op nm ps=>
   unfold Ln.ans
   dsimp only
   split
   . show Lo (J9w ps)
     unfold J9w
     split
     . exact J8t
     . decide+kernel
   . exact G3r ok.y
 |_=>exact U1e
def stR(a:List Ln):DSt:=a.foldl (fun s b=>(b.ans s).2) st0
def ansR:DSt ->List Ln ->List Str
 |_,[]=>[]
 |s,x::r=>(x.ans s).1::ansR (x.ans s).2 r
def Ln.line(a:Ln):Str:=Txt.join " " a.ws
def D3x(l:List Ln)(x:Ln):stR (l++ [x])=(x.ans (stR l)).2:=by
 unfold stR
 rw[List.foldl_append]
 rfl
def C6h:∀(l:List Ln) (s:DSt) (x:Ln),ansR s (l++ [x])=ansR s l++ [(x.ans (l.foldl (fun s a=>(a.ans s).2) s)).1]
 | [],_,_=>rfl
 |y::l,s,x=>aM (List.cons _) (C6h l (y.ans s).2 x)
def B6r:∀(l:List Ln) (s:DSt),(ansR s l).length=l.length
 | [],_=>rfl
 |y::l,s=>aM Nat.succ (B6r l (y.ans s).2)
def D4t:∀(l:List Ln) (s:DSt) (i:Nat) (x:Ln),l[i]?=some x ->(ansR s l)[i]?=some (x.ans ((l.take i).foldl (fun s a=>(a.ans s).2) s)).1
 | [],_,_,_,h=>by simp at h
 | y::l,s,0,x,h=>by
   obtain rfl:y=x:=by simpa using h
   rfl
 |y::l,s,i+1,x,h=>D4t l (y.ans s).2 i x (by simpa using h)
def G3g:∀{l:List Ln},(∀x∈l,x.Ok) ->∀{s:DSt},s.Ok ->(l.foldl (fun s b=>(b.ans s).2) s).Ok
 | [],_,_,h=>h
 |x::l,a,s,h=>G3g (l:=l) (fun y c=>a y (aJ _ c)) (Ln.desk h (a x aH)).2
def G0k:∀{l:List Ln},(∀x∈l,x.Ok) ->∀{s:DSt},s.Ok ->∀z∈ansR s l,Lo z
 | [],_,_,_=>fun z a=>nomatch a
 | x::l,b,s,h=>fun z a=>by
   rcases bM.mp a with rfl|a
   . exact Ln.lo h
   . exact G0k (l:=l) (fun y c=>b y (aJ _ c)) (Ln.desk h (b x aH)).2 z a
def J3h{l:List Ln}(f:∀x∈l,x.Ok)(n:l.length<=900):U9f (l.map Ln.line) (ansR st0 l) (fun i=>stR (l.take i)) where
 s0:=rfl
 len:=by rw[B6r,aP]
 n:=by rw[aP];exact n
 go:=fun i z d=>by
   rw[eX] at d
   obtain⟨x,a,rfl⟩:=iT.mp d
   have b:=f x (cF a)
   have c:(stR (l.take i)).Ok:=G3g (fun y g=>f y (cW g)) D1h
   obtain⟨h,_,ll,j⟩:=x.fits b
   have e:Txt.split x.line " "=x.dw:=j
   refine⟨(x.ans (stR (l.take i))).1,D4t l st0 i x a,ll,by rw[e];exact h,c,?_⟩
   rw[e,kS,a,show(some x).toList=[x] from rfl,D3x]
   exact(x.desk c b).1
def J3d{x:Ln}(h:x.Ok):Lo x.line:=by
 obtain⟨e,b,_,_⟩:=x.words h
 show Lo (Txt.join " " x.ws)
 rw[e,A3g]
 exact C2t fun z a c d=>((b z a).b c d).2
def D9k:∀{l:List Str},(∀z∈l,z.length<=60) ->(l.map (·.length)).sum<=60*l.length
 | [],_=>aO _
 | z::l,h=>by
   have a:=h z aH
   have b:=D9k fun z c=>h z (aJ _ c)
   simp only[cX,jD,bK]
   lia
def J7g:∀nm∈opS++C4u,nm.length<=60:=by decide+kernel
def Ln.wsl{b:Ln}(a:b.Ok):(∀z∈b.ws,z.length<=60)/\b.ws.length<=9:=by
 obtain⟨_,f,_,j⟩:=b.words a
 cases b with
 |way z=>exact⟨aU.2 ⟨by decide+kernel,aU.2 ⟨J7g z (bJ _ a),fun _ h=>nomatch h⟩⟩,by show 2<=9;decide⟩
 | op nm ps=>
   obtain⟨g,e⟩:=a
   have i:nm∈opS:=by
     rcases e with h|h|h
     . exact aZ _ (aZ _ h.1)
     . exact aZ _ (bJ _ h.1)
     . exact bJ _ (bE.mpr h.1)
   have k:ps.length<=3:=by rcases e with h|h|h<;>(have:=h.2;lia)
   refine⟨aU.2 ⟨J7g nm (aZ _ i),fun z c=>?_⟩,by show(ps.map (·.1)).length+1<=9;rw[aP];lia⟩
   obtain⟨p,d,rfl⟩:=eK.mp c
   exact(g p d).1.l
 |_=>exact⟨fun z c=>(f z c).l,j⟩
def V2s:∀M:Nat,M<25 ->Builtin.Range.small 0 (M:Int) 2=true/\Builtin.Range.rangeSize 0 (M:Int) 2=((Builtin.Range.rangeSize 0 (M:Int) 2).toNat:Int)/\(Builtin.Range.rangeSize 0 (M:Int) 2).toNat<=12/\Builtin.divisionGoesByPylong ((M:Int)-0) 2=false/\∀i,i<(Builtin.Range.rangeSize 0 (M:Int) 2).toNat ->2*i<M:=by decide+kernel
structure Sit(CC:Addr)(H0 H:Hp)(c a b L D:Addr)(lns:List Ln):Prop where
 ct:U5 CC H c (stR lns).v a b (stR lns).xs (stR lns).ys
 eL:H L=some (.lst ((lns.map Ln.line).map V.str))
 eD:H D=some (.lst ((ansR st0 lns).map V.str))
 aL:a≠L
 aD:a≠D
 bL:b≠L
 bD:b≠D
 ok:∀x∈lns,x.Ok
 s:C9 H0 H
 nL:H0 L=none
 nD:H0 D=none
 nc:H0 c=none
 LD:L≠D
def Sit.same(h:Sit i f H c a b L D d)(e:C9 H g):Sit i f g c a b L D d:=
 {h with ct:=h.ct.same e,eL:=e _ _ h.eL,eD:=e _ _ h.eD,s:=h.s.trans e}
abbrev stL(sc c L D:Addr)(v4 v5 v6 v7 v8 v9 v10 v11:Option V):L2.St:=[some (.ref sc),some (.ref c),some (.ref L),some (.ref D),v4,v5,v6,v7,v8,v9,v10,v11]
section
variable{P:Program}{w:World}{K:Frag}{Y:Str ->Option Value}{Z:Heap}
inductive D5h(K:Frag)(vs:List V)(H:Hp)(Q:VK)(_:XK):Prop
 |mk(a ns)(_:vs=[.ref a])(_:(ns:List Int).length<=63)(_:SqL K H a (ns.map V.int))(_:∀b,Q (.bl true) b)
def scLaw:B9 ["_law_script","_law_context","_law_lines","_law_due","_law_k","_law_cell","_law_more","_law_words","_law_answer_here","_law_handed","_law_found","_law_again"] ["_law_script"] (A5 C2z):=scK
def U0e(D:Def K Y "law" ["_law_script"] C2z f fd)(X:Def K Y "_law_cell_at" ["_law_script","_law_k"] D3g f1 ze)(U:B0 P w K Y Z (CX1 P w) 1 f1 ze ["_law_script","_law_k"] (G5m K))(I:Def K Y "_law_mixed" ["_law_cell","_law_k"] B4j f2 zd)(F:B0 P w K Y Z (CX1 P w) 1 f2 zd ["_law_cell","_law_k"] B6z)(W:Def K Y "_law_setting" ["_law_cell"] B0b f3 zc)(J:B0 P w K Y Z (CX1 P w) 2 f3 zc ["_law_cell"] C4z)(G:Def K Y "_law_operation" ["_law_cell"] C3t f4 zb)(B:B0 P w K Y Z (CX1 P w) 3 f4 zb ["_law_cell"] C4z)(xv:Def K Y "_law_answer" ["_law_context","_law_words"] D4x f5 za)(xu:B0 P w K Y Z (CX1 P w) 11 f5 za ["_law_context","_law_words"] (G4s CC))(A:Def K Y "played" ["lines"] B6k f6 yz)(u:B0 P w K Y Z (CX1 P w) 13 f6 yz ["lines"] C7z)(M0:G4y P w K Y Z CC CB fI fdI d9 dh zt)(C:B3p K Y CC)(T:Kit K)(O:Own Y):B0 P w K Y Z (CX1 P w) 14 f fd ["_law_script"] (D5h K):=by
 refine okZ D.F scLaw ?_
 rintro _ _ _ _ H _ Q E hr hx⟨sc,ns,rfl,zx,hS,kk⟩
 have hu:=hr.units
 have V0:U7 [.int 9,.str "half even",.non,.int 60] [d9,dh,.none,zt]:= .cons M0.r9 (.cons M0.rh (.cons rfl (.cons M0.r60 .nil)))
 refine⟨_,(A2 (C8 (psz (i:=1) scLaw.nd (C8n M0.m.m M0.m.g hr C.g M0.b0 V0 hx))) (A2 (C8 (psz (i:=2) scLaw.nd (G8 A1))) (A2 (C8 (psz (i:=3) scLaw.nd (G8 A1))) (A2 (C8 (B7f iQ rfl (D6j rfl O.range_ (A0 A4 (A0 (G9 (A4r rfl) (by rfl) O.min_ boot_min (A0 A4 (A0 (G9 A0h (by rfl) O.len_ PySem.boot_len (A0 (pv 0) A1)) A1))) (A0 A4 A1)))) (A1f (i:=4) scLaw.nd rfl (Or.inl rfl)) (A2 (C8 (psz (i:=5) scLaw.nd (B7 I F hr hx (A0 (G7 G4 (pv 0) (pv 4) (fun _ _=>rfl)) (A0 (pv 4) A1))))) (A2 (C8 (psz (i:=6) scLaw.nd (B7 I F hr hx (A0 (B7 X U hr hx (A0 (pv 0) (A0 (D0 V8 (pv 4) A4) A1))) (A0 (D0 V8 (pv 4) A4) A1))))) (A2 (C8 (psz (i:=7) scLaw.nd (G6 (B5 D5 (D0 Y2 (pv 5) A4) A4 B8) (B7 W J hr hx (A0 (pv 6) A1)) (B7 G B hr hx (A0 (pv 6) A1))))) (A2 (C8 (C9m (B7 xv xu hr hx (A0 (pv 1) (A0 (pv 7) A1))) (U1a rfl (C5f (A1f (i:=8) scLaw.nd rfl (Or.inl rfl)) (C5f (A1f (i:=1) scLaw.nd rfl (Or.inl rfl)) J4y))))) (A2 (C8 (J9 (A1x PySem.F.plainAttrs_list PySem.F.slot_list_append PySem.F.type_list_append B3t (pv 2) (A0 (A1x PySem.F.plainAttrs_str PySem.F.slot_str_join PySem.F.type_str_join B3f A9 (A0 (pv 7) A1)) A1)))) (A3 (C8 (J9 (A1x PySem.F.plainAttrs_list PySem.F.slot_list_append PySem.F.type_list_append B3t (pv 3) (A0 (pv 8) A1)))))))))))) (A2 (C8 (psz (i:=9) scLaw.nd (U8 A4p (by rfl) O.list_ boot_list (A0 (pv 2) A1)))) (A2 (C8 (psz (i:=10) scLaw.nd (B7 A u hr hx (A0 (pv 9) A1)))) (A2 (C8 (D3 (PW.pt (B0s (B5 (C9x hr.units) (pv 9) (pv 2) B8) (B0s (A2t (V3 (C7g O.isi (pv 10) (pty O.list_ boot_list)))) (A6u (B5 (C9x hr.units) (pv 10) (pv 3) B8))))) (A3 (A7 B0q)) C0)) (A2 (C8 (psz (i:=11) scLaw.nd (B7 A u hr hx (A0 (pv 9) A1)))) (A2 (C8 (J9 (C9e PySem.F.plainAttrs_list PySem.F.slot_list_clear PySem.F.type_list_clear G2p (pv 11)))) (A3 (A7 (A7b (V6 (C8y hr.units) (B7 A u hr hx (A0 (U8 A4p (by rfl) O.list_ boot_list (A0 (pv 2) A1)) A1)) (pv 3) B8) (A3y (V6 (C8y hr.units) (pv 10) (pv 3) B8)))))))))))))),fun d s=>∃c a b,C9 H s/\H c=none/\U5 CC s c st0.v a b [] []/\d=[some (.ref sc),some (.ref c),none,none,none,none,none,none,none,none,none,none],?_,?_⟩
 . intro x zm n1 n2 ne
   exact⟨x,zm,_,_,_,_,rfl,A6,.inl ⟨9,.halfEven, -60,60,rfl,by decide,by decide,rfl,.inl ⟨rfl,rfl⟩,rfl,by decide,by decide,fun a b H4 e na nb c=>⟨rfl,x,a,b,A9q n1 n2 ne e,n1,c,rfl⟩⟩⟩
 rintro d H1 ⟨c,a,b,s1,nc,ct,rfl⟩
 refine⟨fun d s=>∃L,C9 H1 s/\H1 L=none/\s L=some (.lst [])/\d=[some (.ref sc),some (.ref c),some (.ref L),none,none,none,none,none,none,none,none,none],⟨bP _,fun L nL=>⟨L,C9.upd nL,nL,A6,rfl⟩⟩,?_⟩
 rintro d H2 ⟨L,s2,nL,eL,rfl⟩
 refine⟨fun d s=>∃D,C9 H2 s/\H2 D=none/\s D=some (.lst [])/\d=stL sc c L D none none none none none none none none,⟨bP _,fun D nD=>⟨D,C9.upd nD,nD,A6,rfl⟩⟩,?_⟩
 rintro d H3 ⟨D,s3,nD,eD,rfl⟩
 have yk:=s1.trans (s2.trans s3)
 have S0:Sit CC H H3 c a b L D []:=⟨(ct.same s2).same s3,s3 _ _ eL,eD,D6 ct.ha nL,D6 (s2 _ _ ct.ha) nD,D6 ct.hb nL,D6 (s2 _ _ ct.hb) nD,(fun _ h=>nomatch h),yk,s1.free nL,(s1.trans s2).free nD,nc,D6 eL nD⟩
 clear ct s1 s2 s3 nL nD eL eD nc
 refine⟨fun d s=>∃c a b k v4 v5 v6 v7 v8,Sit CC H s c a b L D k/\k.length<=12/\d=stL sc c L D v4 v5 v6 v7 v8 none none none,?_,?_⟩
 . obtain⟨M,hM,hM2,eM⟩:∃M:Nat,M<25/\M<=ns.length/\(if((ns.map V.int).length:Int)<24 then((ns.map V.int).length:Int) else 24)=(M:Int):=by
     rw[aP]
     by_cases h:(ns.length:Int)<24
     . exact⟨ns.length,by lia,aO _,by rw[aC h]⟩
     . exact⟨24,by decide,by lia,by rw[aA h];rfl⟩
   obtain⟨r1,r2,r3,r4,r5⟩:=V2s M hM
   refine⟨sc,_,rfl,.inl (yk.seq hS),_,_,rfl,0,_,2,(Builtin.Range.rangeSize 0 (M:Int) 2).toNat,rfl,by decide,?_⟩
   rw[eM]
   refine⟨r4,r1,r2,?_⟩
   generalize (Builtin.Range.rangeSize 0 (M:Int) 2).toNat=N at r3 r5
   refine U5e (fun i d s=>∃c a b k v4 v5 v6 v7 v8,Sit CC H s c a b L D k/\k.length<=i/\d=stL sc c L D v4 v5 v6 v7 v8 none none none) ⟨c,a,b,[],none,none,none,none,none,S0,bP _,rfl⟩ ?_ ?_
   . clear S0 a b c
     rintro i d H4 hi ⟨c,a,b,k,v4,v5,v6,v7,v8,S,ln,rfl⟩
     have hk:=r5 i hi
     have ek:(0:Int)+(i:Int)*2=((2*i:Nat):Int):=by lia
     rw[ek]
     generalize hj:2*i=j at hk ek
     have yy:j<ns.length:=by lia
     have ym:=S.s.seq hS
     refine⟨fun d s=>∃m:Int,s=H4/\d=stL sc c L D (some (.int (j:Int))) (some (.int m)) v6 v7 v8 none none none,⟨rfl,rfl,ym,D9 (v:=V.int ns[j]) (by simp[yy]),ns[j],(j:Int),rfl,by lia,by lia,fun m m0 m1=>⟨m,rfl,rfl⟩⟩,?_⟩
     rintro d H5 ⟨m,rfl,rfl⟩
     refine⟨fun d s=>∃e:Int,0<=e/\s=H5/\d=stL sc c L D (some (.int (j:Int))) (some (.int m)) (some (.int e)) v7 v8 none none none,⟨sc,ns,(j:Int)+1,rfl,ym,by lia,fun c0=>⟨c0,(j:Int)+1,rfl,by lia,by lia,fun e e0 e1=>⟨e,e0,rfl,rfl⟩⟩⟩,?_⟩
     rintro d H6 ⟨e,e0,rfl,rfl⟩
     refine⟨fun d s=>∃l x,Sit CC H s c a b L D k/\s l=some (.lst ((x:Ln).ws.map V.str))/\x.Ok/\d=stL sc c L D (some (.int (j:Int))) (some (.int m)) (some (.int e)) (some (.ref l)) v8 none none none,⟨(by decide:(0:Int)<3),rfl,rfl,G5 (fun _=>⟨e,rfl,e0,fun l x s s' nl el xo=>⟨l,x,S.same s',el,xo,rfl⟩⟩) (fun _=>⟨e,rfl,e0,fun l x s s' nl el xo=>⟨l,x,S.same s',el,xo,rfl⟩⟩)⟩,?_⟩
     rintro d H7 ⟨l,x,S,el,xo,rfl⟩
     have so:(stR k).Ok:=G3g S.ok D1h
     obtain⟨dx,ec⟩:=S.ct.ins
     have yw:L≠c:=A2v S.eL ec (by intro z;cases z)
     have yx:D≠c:=A2v S.eD ec (by intro z;cases z)
     have yr:l≠c:=A2v el ec (by intro z;cases z)
     refine⟨fun d s=>∃c' a' b',U5 CC s c' (stR (k++ [x])).v a' b' (stR (k++ [x])).xs (stR (k++ [x])).ys/\s L=some (.lst ((k.map Ln.line).map V.str))/\s D=some (.lst ((ansR st0 k).map V.str))/\(a'≠L/\b'≠L)/\(a'≠D/\b'≠D)/\C9 H s/\H c'=none/\s l=some (.lst (x.ws.map V.str))/\d=stL sc c' L D (some (.int (j:Int))) (some (.int m)) (some (.int e)) (some (.ref l)) (some (.str (x.ans (stR k)).1)) none none none,?_,?_⟩
     . refine⟨c,a,b,stR k,l,x,rfl,S.ct,so,el,xo,fun t c' a' b' s ex ht et zu nw yu=>⟨t,_,rfl,SqT.of et,rfl,_,_,rfl,_,_,rfl,rfl,?_⟩⟩
       have kp:C9 H s:=fun q o h=>ex _ _ (S.s _ _ h) (D6 h S.nc)
       refine⟨c',a',b',by rw[D3x];exact zu,ex _ _ S.eL yw,ex _ _ S.eD yx,nw L (by rw[S.eL];simp) S.aL S.bL,nw D (by rw[S.eD];simp) S.aD S.bD,kp,?_,ex _ _ el yr,rfl⟩
       rcases yu with h|h
       . rw[h];exact S.nc
       . exact S.s.free h
     rintro d H8 ⟨c',a',b',yi,xx,zi,aL,aD,s8,yt,zg,rfl⟩
     obtain⟨zk,yp⟩:=yi.ins
     have ft:=(x.words xo)
     have sl:=D1n ft.2.1
     obtain⟨zw,_,zy,_⟩:=x.fits xo
     have yj:(x.ws.map (·.length)).sum+x.ws.length<=900:=by
       have a:=D9k (x.wsl xo).1
       have b:=(x.wsl xo).2
       lia
     have l8:(k.map Ln.line).length<=12:=by rw[aP];lia
     refine⟨fun d s=>U5 CC s c' (stR (k++ [x])).v a' b' (stR (k++ [x])).xs (stR (k++ [x])).ys/\s L=some (.lst (((k++ [x]).map Ln.line).map V.str))/\s D=some (.lst ((ansR st0 k).map V.str))/\C9 H s/\d=stL sc c' L D (some (.int (j:Int))) (some (.int m)) (some (.int e)) (some (.ref l)) (some (.str (x.ans (stR k)).1)) none none none,?_,?_⟩
     . refine⟨.inl ⟨rfl,_,SqL.of xx⟩,rfl,_,l,x.ws,rfl,rfl,SqL.of zg,A8j yj,L,_,_,rfl,rfl,xx,A0u (by rw[aP];lia),?_⟩
       have un:∀{q o},H8 q=some o ->q≠L ->upd H8 L (.lst ((k.map Ln.line).map V.str++ [.str (Txt.join " " x.ws)])) q=some o:=fun h n=>by rw[D8 n];exact h
       refine⟨⟨⟨zk,un yp (A2v yp xx (by intro z;cases z))⟩,un yi.ha aL.1,un yi.hb aL.2⟩,?_,un zi (eU S.LD),fun q o h=>un (s8 _ _ h) (D6 h S.nL),rfl⟩
       rw[A6,cL,cL]
       rfl
     rintro d H9 ⟨yh,zh,xy,s9,rfl⟩
     obtain⟨zj,yo⟩:=yh.ins
     have un:∀{q o},H9 q=some o ->q≠D ->upd H9 D (.lst ((ansR st0 k).map V.str++ [.str (x.ans (stR k)).1])) q=some o:=fun h n=>by rw[D8 n];exact h
     refine⟨_,⟨.inl ⟨rfl,_,SqL.of xy⟩,D,_,_,rfl,rfl,xy,A0u (by rw[aP,B6r];lia),c',a',b',k++ [x],_,_,_,_,_,⟨⟨⟨zj,un yo (A2v yo xy (by intro z;cases z))⟩,un yh.ha aD.1,un yh.hb aD.2⟩,un zh S.LD,?_,aL.1,aD.1,aL.2,aD.2,fun y hy=>?_,fun q o h=>un (s9 _ _ h) (D6 h S.nD),S.nL,S.nD,yt,S.LD⟩,?_,rfl⟩,fun _ _ h=>h⟩
     . rw[A6,C6h,cL]
       rfl
     . rcases bO.mp hy with hy|hy
       . exact S.ok y hy
       . rw[bE.mp hy];exact xo
     . rw[aG]
       show k.length+1<=i+1
       lia
   . rintro d s ⟨c,a,b,k,v4,v5,v6,v7,v8,S,ln,rfl⟩
     exact⟨c,a,b,k,v4,v5,v6,v7,v8,S,by lia,rfl⟩
 clear S0 a b c
 rintro d H4 ⟨c,a,b,k,v4,v5,v6,v7,v8,S,ln,rfl⟩
 have R:=J3h S.ok (by lia)
 have okZ:OkL (k.map Ln.line):=⟨by rw[aP];lia,fun z hz=>by
   obtain⟨x,hx,rfl⟩:=eK.mp hz
   exact(J3d (S.ok x hx)).ok⟩
 have xw:OkL (ansR st0 k):=⟨by rw[B6r];lia,fun z hz=>(G0k S.ok D1h z hz).ok⟩
 have eL:=S.eL
 have eD:=S.eD
 generalize k.map Ln.line=zs at R okZ eL
 generalize ansR st0 k=ts at R xw eD
 refine⟨fun d s=>∃h,C9 H4 s/\s h=some (.lst (zs.map V.str))/\d=stL sc c L D v4 v5 v6 v7 v8 (some (.ref h)) none none,⟨L,_,rfl,.inl (SqL.of eL),fun h nh=>⟨h,C9.upd nh,A6,rfl⟩⟩,?_⟩
 rintro d H5 ⟨h,s5,eh,rfl⟩
 refine⟨fun d s=>∃g,C9 H5 s/\s g=some (.lst (ts.map V.str))/\d=stL sc c L D v4 v5 v6 v7 v8 (some (.ref h)) (some (.ref g)) none,⟨h,zs,ts,_,rfl,eh,R,fun g s s' ng eg=>⟨g,s',eg,rfl⟩⟩,?_⟩
 rintro d H6 ⟨g,s6,eg,rfl⟩
 have yq:=s6 _ _ (s5 _ _ eL)
 have xz:=s6 _ _ (s5 _ _ eD)
 have yn:=s6 _ _ eh
 refine⟨fun d s=>s=H6/\d=stL sc c L D v4 v5 v6 v7 v8 (some (.ref h)) (some (.ref g)) none,?_,?_⟩
 . refine⟨rdS zs,rdS zs,A4a yn,A4a yq,shS okZ,shS okZ,rfl,?_⟩
   rw[aC rfl,D9h]
   refine V4 ⟨_,_,_,_,true,rfl,rfl,G0v eg,T.list_list,rfl,V4 ⟨rdS ts,rdS ts,A4a eg,A4a xz,shS xw,shS xw,rfl,?_⟩⟩
   rw[aC rfl,D9h]
   exact V4 ⟨rfl,rfl⟩
 rintro d H7 ⟨rfl,rfl⟩
 refine⟨fun d s=>∃q,C9 H7 s/\H7 q=none/\s q=some (.lst (ts.map V.str))/\d=stL sc c L D v4 v5 v6 v7 v8 (some (.ref h)) (some (.ref g)) (some (.ref q)),⟨h,zs,ts,_,rfl,yn,R,fun q s s' nq eq=>⟨q,s',nq,eq,rfl⟩⟩,?_⟩
 rintro d H8 ⟨q,s8,nq,eq,rfl⟩
 refine⟨fun d s=>C9 H7 s/\d=stL sc c L D v4 v5 v6 v7 v8 (some (.ref h)) (some (.ref g)) (some (.ref q)),⟨.inl ⟨rfl,_,SqL.of eq⟩,q,_,rfl,rfl,eq,fun p o e=>by rw[D8 (D6 e nq)];exact s8 _ _ e,rfl⟩,?_⟩
 rintro d H9 ⟨s9,rfl⟩
 refine⟨L,_,rfl,.inl (SqL.of (s9 _ _ yq)),fun p np=>⟨p,zs,ts,_,rfl,A6,R,fun r s s' nr er=>?_⟩⟩
 have sm:=s9.trans ((C9.upd np).trans s')
 refine⟨rdS ts,rdS ts,A4a er,A4a (sm _ _ xz),shS xw,shS xw,?_⟩
 rw[aA aB,D9h]
 refine⟨rfl,rdS ts,rdS ts,A4a (sm _ _ eg),A4a (sm _ _ xz),shS xw,shS xw,?_⟩
 rw[aA aB,D9h]
 exact kk _
end
def kvp{a:Type}[DecidableEq a]{k:a}{x:V}{u:Value}{kvs:List (a×V)}{vs:List (a×Value)}(h:Y3 x u)(r:KV kvs vs):KV ((k,x)::kvs) ((k,u)::vs):= .cons ⟨rfl,h⟩ r
def D6w{P:Program}{w:World}{K:Frag}{B:Addr}{J t I s g2 r g3 q g4 o H n G m F l E k D j A g z f y d x c v b u a:Tok}{i:Nat}(C:K.lookup B=some ⟨.type "dict",none,.dict #[⟨PyData.keyHash w.params "plus",.str "plus" J,.int 2 t⟩,⟨PyData.keyHash w.params "minus",.str "minus" I,.int 2 s⟩,⟨PyData.keyHash w.params "times",.str "times" g2,.int 2 r⟩,⟨PyData.keyHash w.params "fused",.str "fused" g3,.int 3 q⟩,⟨PyData.keyHash w.params "over",.str "over" g4,.int 2 o⟩,⟨PyData.keyHash w.params "whole over",.str "whole over" H,.int 2 n⟩,⟨PyData.keyHash w.params "rest",.str "rest" G,.int 2 m⟩,⟨PyData.keyHash w.params "root",.str "root" F,.int 1 l⟩,⟨PyData.keyHash w.params "same power",.str "same power" E,.int 2 k⟩,⟨PyData.keyHash w.params "to whole",.str "to whole" D,.int 1 j⟩,⟨PyData.keyHash w.params "trimmed",.str "trimmed" A,.int 1 g⟩,⟨PyData.keyHash w.params "next up",.str "next up" z,.int 1 f⟩,⟨PyData.keyHash w.params "next down",.str "next down" y,.int 1 d⟩,⟨PyData.keyHash w.params "lesser",.str "lesser" x,.int 2 c⟩,⟨PyData.keyHash w.params "greater",.str "greater" v,.int 2 b⟩,⟨PyData.keyHash w.params "compare",.str "compare" u,.int 2 a⟩] i, #[]⟩)(ns:(B==sysModules)=false):C7y P w K B NUM:=by
 refine⟨ns,fun h X=>⟨[(Sum.inr "plus",.int 2 t),(Sum.inr "minus",.int 2 s),(Sum.inr "times",.int 2 r),(Sum.inr "fused",.int 3 q),(Sum.inr "over",.int 2 o),(Sum.inr "whole over",.int 2 n),(Sum.inr "rest",.int 2 m),(Sum.inr "root",.int 1 l),(Sum.inr "same power",.int 2 k),(Sum.inr "to whole",.int 1 j),(Sum.inr "trimmed",.int 1 g),(Sum.inr "next up",.int 1 f),(Sum.inr "next down",.int 1 d),(Sum.inr "lesser",.int 2 c),(Sum.inr "greater",.int 2 b),(Sum.inr "compare",.int 2 a)],?_,⟨_,_,i,X _ _ C,⟨rfl,rfl,rfl⟩,rfl,?_,?_,?_⟩⟩⟩
 . exact kvp ⟨_,rfl⟩ (kvp ⟨_,rfl⟩ (kvp ⟨_,rfl⟩ (kvp ⟨_,rfl⟩ (kvp ⟨_,rfl⟩ (kvp ⟨_,rfl⟩ (kvp ⟨_,rfl⟩ (kvp ⟨_,rfl⟩ (kvp ⟨_,rfl⟩ (kvp ⟨_,rfl⟩ (kvp ⟨_,rfl⟩ (kvp ⟨_,rfl⟩ (kvp ⟨_,rfl⟩ (kvp ⟨_,rfl⟩ (kvp ⟨_,rfl⟩ (kvp ⟨_,rfl⟩ (.nil))))))))))))))))
 . intro e he
   have he:=gS.mpr he
   simp only[bM,List.not_mem_nil,or_false] at he
   rcases he with rfl|rfl|rfl|rfl|rfl|rfl|rfl|rfl|rfl|rfl|rfl|rfl|rfl|rfl|rfl|rfl
   . exact⟨.inr "plus",G0 _ _ _,rfl⟩
   . exact⟨.inr "minus",G0 _ _ _,rfl⟩
   . exact⟨.inr "times",G0 _ _ _,rfl⟩
   . exact⟨.inr "fused",G0 _ _ _,rfl⟩
   . exact⟨.inr "over",G0 _ _ _,rfl⟩
   . exact⟨.inr "whole over",G0 _ _ _,rfl⟩
   . exact⟨.inr "rest",G0 _ _ _,rfl⟩
   . exact⟨.inr "root",G0 _ _ _,rfl⟩
   . exact⟨.inr "same power",G0 _ _ _,rfl⟩
   . exact⟨.inr "to whole",G0 _ _ _,rfl⟩
   . exact⟨.inr "trimmed",G0 _ _ _,rfl⟩
   . exact⟨.inr "next up",G0 _ _ _,rfl⟩
   . exact⟨.inr "next down",G0 _ _ _,rfl⟩
   . exact⟨.inr "lesser",G0 _ _ _,rfl⟩
   . exact⟨.inr "greater",G0 _ _ _,rfl⟩
   . exact⟨.inr "compare",G0 _ _ _,rfl⟩
 . exact .cons (G0 _ _ _) rfl (.cons (G0 _ _ _) rfl (.cons (G0 _ _ _) rfl (.cons (G0 _ _ _) rfl (.cons (G0 _ _ _) rfl (.cons (G0 _ _ _) rfl (.cons (G0 _ _ _) rfl (.cons (G0 _ _ _) rfl (.cons (G0 _ _ _) rfl (.cons (G0 _ _ _) rfl (.cons (G0 _ _ _) rfl (.cons (G0 _ _ _) rfl (.cons (G0 _ _ _) rfl (.cons (G0 _ _ _) rfl (.cons (G0 _ _ _) rfl (.cons (G0 _ _ _) rfl (.nil))))))))))))))))
 show(([(Sum.inr "plus",.int 2 t),(Sum.inr "minus",.int 2 s),(Sum.inr "times",.int 2 r),(Sum.inr "fused",.int 3 q),(Sum.inr "over",.int 2 o),(Sum.inr "whole over",.int 2 n),(Sum.inr "rest",.int 2 m),(Sum.inr "root",.int 1 l),(Sum.inr "same power",.int 2 k),(Sum.inr "to whole",.int 1 j),(Sum.inr "trimmed",.int 1 g),(Sum.inr "next up",.int 1 f),(Sum.inr "next down",.int 1 d),(Sum.inr "lesser",.int 2 c),(Sum.inr "greater",.int 2 b),(Sum.inr "compare",.int 2 a)]:List (Key×Value)).map (·.1)).Nodup
 simp only[cX,List.map_nil]
 exact(by decide+kernel:(NUM.map fun p=>(Sum.inr p.1:Key)).Nodup)
def Fa(K:Frag)(x:Str)(st:Stmt):Prop:=∃(f:Addr) (g:Value) (e:Option Addr) (b:Array (Option Value)) (kV c d:Value) (h:Option Addr) (a ct:Value),nsIn K mainGlobals x=some (some (.ref f))/\K.lookup f=some ⟨g,e,.func (fnOf x x (U9 st) (U4 st) (A5 st) .none kV c d h a ct),b⟩/\codeIn K a x=true/\keepIn K (.ref f)=true
def Fa.mk{K:Frag}{st:Stmt}{kV d e b ct:Value}(a:nsIn K mainGlobals x=some (some (.ref f)))(l:K.lookup f=some ⟨i,h,.func (fnOf x x (U9 st) (U4 st) (A5 st) .none kV d e j b ct),g⟩)(c:codeIn K b x=true)(k:keepIn K (.ref f)=true):Fa K x st:=
 ⟨_,_,_,_,_,_,_,_,_,_,a,l,c,k⟩
def Fb(K:Frag)(C:Addr)(m q:Str)(st:Stmt):Prop:=∃(f:Addr) (g:Value) (e:Option Addr) (b:Array (Option Value)) (kV c d:Value) (h:Option Addr) (a ct:Value),findIn K (.ref C) m=some (some (.ref f))/\isFn K (.ref f)=true/\K.lookup f=some ⟨g,e,.func (fnOf m q (U9 st) (U4 st) (A5 st) .none kV c d h a ct),b⟩/\codeIn K a q=true/\keepIn K (.ref f)=true
def Fb.mk{K:Frag}{st:Stmt}{kV d e b ct:Value}(a:findIn K (.ref C) m=some (some (.ref f)))(i:isFn K (.ref f)=true)(l:K.lookup f=some ⟨j,h,.func (fnOf m q (U9 st) (U4 st) (A5 st) .none kV d e n b ct),g⟩)(c:codeIn K b q=true)(k:keepIn K (.ref f)=true):Fb K C m q st:=
 ⟨_,_,_,_,_,_,_,_,_,_,a,i,l,c,k⟩
def Fa.go0{K:Frag}{h:Heap}{st:Stmt}(u:Fa K x st)(X:K.In h)(G:h.Ns mainGlobals Y)(m:∀(kV b i:Value) (g:Option Addr) (e ct:Value),bindArgs (fnOf x x (U9 st) (U4 st) (A5 st) .none kV b i g e ct) ⟨[],[]⟩=pure ([].zip []):=by intros;rfl):∃f fd,Def K Y x [] st f fd:=by
 obtain⟨_,_,_,_,_,_,_,_,_,_,a,l,c,k⟩:=u
 exact⟨_,_,B4q X G a l c k fun kV d p g n ct us j=>match us,j with| [],_=>m kV d p g n ct⟩
def Fa.go1{K:Frag}{h:Heap}{st:Stmt}(u:Fa K x st)(X:K.In h)(G:h.Ns mainGlobals Y)(o:∀(kV b j:Value) (g:Option Addr) (e ct:Value) (i:Value),bindArgs (fnOf x x (U9 st) (U4 st) (A5 st) .none kV b j g e ct) ⟨[i],[]⟩=pure ([m].zip [i]):=by intros;rfl):∃f fd,Def K Y x [m] st f fd:=by
 obtain⟨_,_,_,_,_,_,_,_,_,_,a,l,c,k⟩:=u
 exact⟨_,_,B4q X G a l c k fun kV d p g q ct us n=>match us,n with| [_],_=>o kV d p g q ct _⟩
def Fb.go1{K:Frag}{st:Stmt}(u:Fb K C x q st)(o:∀(kV b j:Value) (g:Option Addr) (e ct:Value) (h:Value),bindArgs (fnOf x q (U9 st) (U4 st) (A5 st) .none kV b j g e ct) ⟨[h],[]⟩=pure ([m].zip [h]):=by intros;rfl):∃f fd,Fun K x q st f fd/\Binds K fd [m] []/\B3j K C x f:=by
 obtain⟨_,_,_,_,_,_,_,_,_,_,a,i,l,c,k⟩:=u
 exact⟨_,_,A4t (st:=st) l c k,(A4t (st:=st) l c k).binds fun kV d p g r ct us n=>match us,n with| [_],_=>o kV d p g r ct _,a,i,k⟩
def Fa.go2{K:Frag}{h:Heap}{st:Stmt}(u:Fa K x st)(X:K.In h)(G:h.Ns mainGlobals Y)(r:∀(kV b m:Value) (g:Option Addr) (e ct:Value) (j i:Value),bindArgs (fnOf x x (U9 st) (U4 st) (A5 st) .none kV b m g e ct) ⟨[j,i],[]⟩=pure ([o,n].zip [j,i]):=by intros;rfl):∃f fd,Def K Y x [o,n] st f fd:=by
 obtain⟨_,_,_,_,_,_,_,_,_,_,a,l,c,k⟩:=u
 exact⟨_,_,B4q X G a l c k fun kV d p g s ct us q=>match us,q with| [_,_],_=>r kV d p g s ct _ _⟩
def Fb.go2{K:Frag}{st:Stmt}(u:Fb K C x q st)(s:∀(kV b m:Value) (g:Option Addr) (e ct:Value) (j h:Value),bindArgs (fnOf x q (U9 st) (U4 st) (A5 st) .none kV b m g e ct) ⟨[j,h],[]⟩=pure ([o,n].zip [j,h]):=by intros;rfl):∃f fd,Fun K x q st f fd/\Binds K fd [o,n] []/\B3j K C x f:=by
 obtain⟨_,_,_,_,_,_,_,_,_,_,a,i,l,c,k⟩:=u
 exact⟨_,_,A4t (st:=st) l c k,(A4t (st:=st) l c k).binds fun kV d p g t ct us r=>match us,r with| [_,_],_=>s kV d p g t ct _ _,a,i,k⟩
def Fa.go3{K:Frag}{h:Heap}{st:Stmt}(u:Fa K x st)(X:K.In h)(G:h.Ns mainGlobals Y)(s:∀(kV b m:Value) (g:Option Addr) (e ct:Value) (j i u2:Value),bindArgs (fnOf x x (U9 st) (U4 st) (A5 st) .none kV b m g e ct) ⟨[j,i,u2],[]⟩=pure ([q,o,n].zip [j,i,u2]):=by intros;rfl):∃f fd,Def K Y x [q,o,n] st f fd:=by
 obtain⟨_,_,_,_,_,_,_,_,_,_,a,l,c,k⟩:=u
 exact⟨_,_,B4q X G a l c k fun kV d p g t ct us r=>match us,r with| [_,_,_],_=>s kV d p g t ct _ _ _⟩
def Fa.go4{K:Frag}{h:Heap}{st:Stmt}(u:Fa K x st)(X:K.In h)(G:h.Ns mainGlobals Y)(v:∀(kV b n:Value) (g:Option Addr) (e ct:Value) (m j u2 i:Value),bindArgs (fnOf x x (U9 st) (U4 st) (A5 st) .none kV b n g e ct) ⟨[m,j,u2,i],[]⟩=pure ([s,r,q,o].zip [m,j,u2,i]):=by intros;rfl):∃f fd,Def K Y x [s,r,q,o] st f fd:=by
 obtain⟨_,_,_,_,_,_,_,_,_,_,a,l,c,k⟩:=u
 exact⟨_,_,B4q X G a l c k fun kV d p g w ct us t=>match us,t with| [_,_,_,_],_=>v kV d p g w ct _ _ _ _⟩
def Fb.go4{K:Frag}{st:Stmt}(u:Fb K C x q st)(w:∀(kV b n:Value) (g:Option Addr) (e ct:Value) (m j u2 h:Value),bindArgs (fnOf x q (U9 st) (U4 st) (A5 st) .none kV b n g e ct) ⟨[m,j,u2,h],[]⟩=pure ([t,s,r,o].zip [m,j,u2,h]):=by intros;rfl):∃f fd,Fun K x q st f fd/\Binds K fd [t,s,r,o] []/\B3j K C x f:=by
 obtain⟨_,_,_,_,_,_,_,_,_,_,a,i,l,c,k⟩:=u
 exact⟨_,_,A4t (st:=st) l c k,(A4t (st:=st) l c k).binds fun kV d p g y ct us v=>match us,v with| [_,_,_,_],_=>w kV d p g y ct _ _ _ _,a,i,k⟩
section
variable{P:Program}{w:World}{K:Frag}{Y:Str ->Option Value}{Z:Heap}
end
end TR
namespace TR
open PySem L2 PySem.W PyProof.Rows
def all_mk{l:OpenLaw}{w:World}{K:Frag}{h:Heap}{Y:Str ->Option Value}{fa CW W0 W1 W2 W3 W4 W5 W6 W7 CN C1s CC B9m D5u CQ C1t G7f CE C1 C2 C3 C4 C5 CR fX aS CD C1v RO C1u J0e aN G9p:Addr}(X:K.In h)(G:h.Ns mainGlobals Y)(hfa:Y "law"=some (.ref fa))(jf:Fa K "product_of" A5f)(vf:Fa K "ten_to" A1w)(vg:Fa K "plain" B7h)(z7:Fa K "end" B9v)(pc:Fa K "nothing" Z2)(x0:Fa K "lead_of" C0v)(vh:Fa K "need_number" A3h)(mn:Fa K "need_numbers" A2g)(vi:Fa K "some_of_kind" A2p)(tu:Fa K "unlike_sign" A7c)(pf:Fa K "whole_at" A2a)(z8:Fa K "is_between" C7a)(ph:Fa K "need_between" A8e)(vj:Fa K "need_count" B7u)(tz:Fa K "part_of" B3h)(vk:Fa K "whole_lead" B0w)(vm:Fa K "whole_root" B8q)(pi:Fa K "settled" A2b)(t_:Fa K "finest_power" A4k)(pj:Fa K "nearest_to" A8x)(jg:Fa K "neighbour" A2h)(u7:Fa K "within_room" B0c)(u8:Fa K "is_beyond" A6w)(vn:Fa K "burst" B8f)(vp:Fa K "nines" B0z)(pk:Fa K "signals_of_rest" A8q)(pq:Fa K "signals_of_lead" A8y)(u9:Fa K "nought" A1n)(x9:Fa K "void" A6c)(vq:Fa K "split_to_end" B7w)(pr:Fa K "rounded" A3s)(mo:Fa K "compared" A3d)(ua:Fa K "lesser" B6n)(px:Fa K "greater" B1t)(xa:Fa K "side_of" D3m)(vt:Fa K "order_of" C1w)(vv:Fa K "way_of" B8g)(pz:Fa K "bounded" B2p)(vw:Fa K "need_signals" B7k)(vx:Fa K "in_order" B7v)(xb:Fa K "over" D4d)(jh:Fa K "whole_over" A7k)(uc:Fa K "rest_of" B6m)(xc:Fa K "has_plain_quotient" C7j)(xf:Fa K "odd_quotient" C7e)(ji:Fa K "whole_part" A5d)(jj:Fa K "same_power" A6x)(vy:Fa K "moved" C3z)(p_:Fa K "parts_at" A8r)(qa:Fa K "signals_of_move" B2d)(qb:Fa K "to_whole" B2t)(qc:Fa K "trimmed" B1n)(ud:Fa K "scaled" A9y)(ue:Fa K "next_up" B6g)(mq:Fa K "next_down" B6d)(qd:Fa K "stepped" A8z)(qe:Fa K "farther" B2h)(uf:Fa K "nearer" B6w)(xg:Fa K "root" D3t)(vz:Fa K "to_power" B3u)(ug:Fa K "power_of_end" B6e)(xh:Fa K "power_of_nought" A7f)(xi:Fa K "plus" D3c)(v_:Fa K "minus" C3r)(w4:Fa K "times" C4g)(w6:Fa K "fused" B4f)(mv:Fa K "is_nought" A9z)(uh:Fa K "is_end_by_nought" B3a)(qf:Fa K "product" A8m)(w8:Fa K "added" B3z)(mw:Fa K "end_added" A9r)(w9:Fa K "sign_of_no_sum" C3c)(qg:Fa K "written" A5x)(ui:Fa K "worth_written" B6s)(jk:Fa K "with_point" A6t)(mx:Fa K "with_lead" A9m)(xj:Fa K "read" B7t)(uj:Fa K "sign_of" B1x)(uk:Fa K "without_sign" B1p)(jm:Fa K "plain_read" A7g)(qh:Fa K "figures_read" B1m)(jn:Fa K "shift_read" A7e)(qi:Fa K "need_figures" A8g)(ul:Fa K "are_figures" B2b)(um:Fa K "played" B6k)(uo:Fa K "answer_of" B6c)(my:Fa K "line_done" A9k)(wa:Fa K "context_changed" C3h)(xk:Fa K "signals_handled" D2s)(qj:Fa K "counted" B2u)(jo:Fa K "count_read" A5e)(xl:Fa K "reckoned" D4a)(xm:Fa K "order_written" D4u)(wd:Fa K "of_one" C3y)(we:Fa K "of_two" C2f)(xn:Fa K "_law_cell_at" D3g)(wg:Fa K "_law_mixed" B4j)(xp:Fa K "_law_ten" J1j)(wj:Fa K "_law_text" C3d)(uq:Fa K "_law_names" B6a)(mz:Fa K "_law_setting" B0b)(wk:Fa K "_law_operation" C3t)(wm:Fa K "_law_reckoned" C2x)(xq:Fa K "_law_of_two" D4f)(wn:Fa K "_law_set" C1y)(xr:Fa K "_law_answer" D4x){U3v G9t:Option Addr}{U4c:Array (Option Value)}{U4a G9u G7d G5z D2k J0j:Value}(D5t:nsIn K mainGlobals "law"=some (some (.ref G9p)))(J0h:K.lookup G9p=some ⟨U4a,U3v,.func (fnOf "law" "law" (U9 C2z) (U4 C2z) (A5 C2z) .none G9u G7d G5z G9t D2k J0j),U4c⟩)(G5q:codeIn K D2k "law"=true)(G8u:keepIn K (.ref G9p)=true)(z9:U2a K)(T:Kit K)(sn:specialIn K (.builtin "object.__class__") "__get__"=some (some (.builtin "getset_descriptor.__get__")))(tk:takesIn K (.builtin "object.__class__")=some true)(V0j:nsIn K mainGlobals "Way"=some (some (.ref CW)))(U3h:nsIn K mainGlobals "Down"=some (some (.ref W0)))(G9y:Cls K W0)(G6v:makesIn K W0=true)(G7t:keepIn K (.ref W0)=true)(G7x:findIn K (.ref W0) "__class__"=some (some (.builtin "object.__class__")))(G8w:mroIn K W0 (.type "object")=some true)(J0m:findIn K (.ref W0) "__init__"=some (some (.builtin "object.__init__")))(J0r:kitOne K (.ref W0) (.ref CW)=some true)(qk:Fb K W0 "name" "Down.name" sN0)(U4e:nsIn K mainGlobals "Up"=some (some (.ref W1)))(G7y:Cls K W1)(G6e:makesIn K W1=true)(G8c:keepIn K (.ref W1)=true)(G7v:findIn K (.ref W1) "__class__"=some (some (.builtin "object.__class__")))(G8a:mroIn K W1 (.type "object")=some true)(G6b:findIn K (.ref W1) "__init__"=some (some (.builtin "object.__init__")))(G5t:kitOne K (.ref W1) (.ref CW)=some true)(ql:Fb K W1 "name" "Up.name" sN1)(U4f:nsIn K mainGlobals "Floor"=some (some (.ref W2)))(G6m:Cls K W2)(G8r:makesIn K W2=true)(G7w:keepIn K (.ref W2)=true)(G5x:findIn K (.ref W2) "__class__"=some (some (.builtin "object.__class__")))(G9c:mroIn K W2 (.type "object")=some true)(G9x:findIn K (.ref W2) "__init__"=some (some (.builtin "object.__init__")))(G9s:kitOne K (.ref W2) (.ref CW)=some true)(qm:Fb K W2 "name" "Floor.name" sN2)(U4g:nsIn K mainGlobals "Ceiling"=some (some (.ref W3)))(J0k:Cls K W3)(J0d:makesIn K W3=true)(J0s:keepIn K (.ref W3)=true)(G8z:findIn K (.ref W3) "__class__"=some (some (.builtin "object.__class__")))(G6z:mroIn K W3 (.type "object")=some true)(J0t:findIn K (.ref W3) "__init__"=some (some (.builtin "object.__init__")))(G5v:kitOne K (.ref W3) (.ref CW)=some true)(qo:Fb K W3 "name" "Ceiling.name" sN3)(U3j:nsIn K mainGlobals "HalfUp"=some (some (.ref W4)))(G6s:Cls K W4)(J0v:makesIn K W4=true)(G9e:keepIn K (.ref W4)=true)(G8m:findIn K (.ref W4) "__class__"=some (some (.builtin "object.__class__")))(G8f:mroIn K W4 (.type "object")=some true)(G8s:findIn K (.ref W4) "__init__"=some (some (.builtin "object.__init__")))(J0q:kitOne K (.ref W4) (.ref CW)=some true)(qp:Fb K W4 "name" "HalfUp.name" sN4)(U3e:nsIn K mainGlobals "HalfDown"=some (some (.ref W5)))(G8d:Cls K W5)(G7u:makesIn K W5=true)(G6x:keepIn K (.ref W5)=true)(J0w:findIn K (.ref W5) "__class__"=some (some (.builtin "object.__class__")))(G7b:mroIn K W5 (.type "object")=some true)(G6u:findIn K (.ref W5) "__init__"=some (some (.builtin "object.__init__")))(G6t:kitOne K (.ref W5) (.ref CW)=some true)(qq:Fb K W5 "name" "HalfDown.name" sN5)(U3y:nsIn K mainGlobals "HalfEven"=some (some (.ref W6)))(G8y:Cls K W6)(G5r:makesIn K W6=true)(J1b:keepIn K (.ref W6)=true)(G8x:findIn K (.ref W6) "__class__"=some (some (.builtin "object.__class__")))(J0y:mroIn K W6 (.type "object")=some true)(G6q:findIn K (.ref W6) "__init__"=some (some (.builtin "object.__init__")))(G7p:kitOne K (.ref W6) (.ref CW)=some true)(qr:Fb K W6 "name" "HalfEven.name" sN6)(U3r:nsIn K mainGlobals "FiveUp"=some (some (.ref W7)))(G6n:Cls K W7)(G8b:makesIn K W7=true)(J0g:keepIn K (.ref W7)=true)(G9z:findIn K (.ref W7) "__class__"=some (some (.builtin "object.__class__")))(G7a:mroIn K W7 (.type "object")=some true)(J0c:findIn K (.ref W7) "__init__"=some (some (.builtin "object.__init__")))(G6a:kitOne K (.ref W7) (.ref CW)=some true)(qt:Fb K W7 "name" "FiveUp.name" sN7)(U2m:nsIn K mainGlobals "Number"=some (some (.ref CN)))(G7n:Cls K CN)(G8j:makesIn K CN=true)(G7q:keepIn K (.ref CN)=true)(G8p:findIn K (.ref CN) "__class__"=some (some (.builtin "object.__class__")))(G9j:mroIn K CN (.type "object")=some true)(B5d:findIn K (.ref CN) "kind"=some none)(B5a:findIn K (.ref CN) "sign"=some none)(A7u:findIn K (.ref CN) "figures"=some none)(B1k:findIn K (.ref CN) "power"=some none)(G9n:findIn K (.ref CN) "__init__"=some (some (.ref C1s)))(G8k:isFn K (.ref C1s)=true){U2f U2q:Option Addr}{U4k:Array (Option Value)}{U3c U2x U2w U2z G9h U2t:Value}(G7r:K.lookup C1s=some ⟨U3c,U2f,.func (fnOf "__init__" "Number.__init__" (U9 C1a) (U4 C1a) (A5 C1a) .none U2x U2w U2z U2q G9h U2t),U4k⟩)(G6k:codeIn K G9h "Number.__init__"=true)(G6r:keepIn K (.ref C1s)=true)(C5d:kitOne K (.ref CN) (.ref CN)=some true)(gq:Fb K W0 "goes_up" "Down.goes_up" sU0)(jp:Fb K W0 "to_end" "Down.to_end" sT0)(gu:Fb K W1 "goes_up" "Up.goes_up" sU1)(jq:Fb K W1 "to_end" "Up.to_end" sT1)(gv:Fb K W2 "goes_up" "Floor.goes_up" sU2)(jr:Fb K W2 "to_end" "Floor.to_end" sT2)(gw:Fb K W3 "goes_up" "Ceiling.goes_up" sU3)(jt:Fb K W3 "to_end" "Ceiling.to_end" sT3)(gy:Fb K W4 "goes_up" "HalfUp.goes_up" sU4)(ju:Fb K W4 "to_end" "HalfUp.to_end" sT4)(gz:Fb K W5 "goes_up" "HalfDown.goes_up" sU5)(jv:Fb K W5 "to_end" "HalfDown.to_end" sT5)(g_:Fb K W6 "goes_up" "HalfEven.goes_up" sU6)(jw:Fb K W6 "to_end" "HalfEven.to_end" sT6)(h_:Fb K W7 "goes_up" "FiveUp.goes_up" sU7)(jx:Fb K W7 "to_end" "FiveUp.to_end" sT7)(U3u:nsIn K mainGlobals "Context"=some (some (.ref CC)))(G6y:Cls K CC)(G9m:makesIn K CC=true)(G8e:keepIn K (.ref CC)=true)(B5e:findIn K (.ref CC) "room"=some none)(B5c:findIn K (.ref CC) "rule"=some none)(B1f:findIn K (.ref CC) "least"=some none)(B5b:findIn K (.ref CC) "most"=some none)(B1h:findIn K (.ref CC) "risen"=some none)(A7s:findIn K (.ref CC) "trapped"=some none)(J0b:findIn K (.ref CC) "__init__"=some (some (.ref B9m)))(G9v:isFn K (.ref B9m)=true){U2n D2f:Option Addr}{U3p:Array (Option Value)}{U2s D2g D2c D2j C5e D2h:Value}(J0p:K.lookup B9m=some ⟨U2s,U2n,.func (fnOf "__init__" "Context.__init__" (U9 A0z) (U4 A0z) (A5 A0z) (.ref D5u) D2g D2c D2j D2f C5e D2h),U3p⟩)(G6d:codeIn K C5e "Context.__init__"=true)(G8t:keepIn K (.ref B9m)=true){G8q G8v J0a:Tok}{U9z:Nat}{U2k:Option Addr}{U3s:Value}{U2p:Array (Option Value)}(D5v:K.lookup D5u=some ⟨U3s,U2k,.seq #[.int 9 G8q,.str "half even" G8v,.none,.int 60 J0a] U9z,U2p⟩)(m_:Fb K CC "flags" "Context.flags" B4h)(jy:Fb K CC "lowest" "Context.lowest" C2y)(ur:Fb K CC "way" "Context.way" C3j)(jz:Fb K CC "raised" "Context.raised" B0u)(n8:Fb K CC "clear" "Context.clear" B4c)(U3x:nsIn K mainGlobals "Ratio"=some (some (.ref CQ)))(G5w:Cls K CQ)(G9k:makesIn K CQ=true)(G6f:keepIn K (.ref CQ)=true)(J1d:findIn K (.ref CQ) "__class__"=some (some (.builtin "object.__class__")))(G7m:mroIn K CQ (.type "object")=some true)(B9n:findIn K (.ref CQ) "top"=some none)(A9j:findIn K (.ref CQ) "bottom"=some none)(B1j:findIn K (.ref CQ) "power"=some none)(G8h:findIn K (.ref CQ) "__init__"=some (some (.ref C1t)))(G7e:isFn K (.ref C1t)=true){U3m G5y:Option Addr}{U2v:Array (Option Value)}{U3z G7s G6c G6h D2e G5s:Value}(G6w:K.lookup C1t=some ⟨U3z,U3m,.func (fnOf "__init__" "Ratio.__init__" (U9 A6v) (U4 A6v) (A5 A6v) (.ref G7f) G7s G6c G6h G5y D2e G5s),U2v⟩)(G7z:codeIn K D2e "Ratio.__init__"=true)(G9b:keepIn K (.ref C1t)=true){J7z:Tok}{U9p:Nat}{U2j:Option Addr}{U3f:Value}{U3k:Array (Option Value)}(C8f:K.lookup G7f=some ⟨U3f,U2j,.seq #[.int 0 J7z] U9p,U3k⟩)(n9:Fb K CQ "first" "Ratio.first" B1y)(wo:Fb K CQ "at" "Ratio.at" D4s)(J6e:nsIn K mainGlobals "Exact"=some (some (.ref CE)))(G9q:kitOne K (.ref CQ) (.ref CE)=some true)(J6h:nsIn K mainGlobals "BadContext"=some (some (.ref C1)))(U3d:nsIn K mainGlobals "BadNumber"=some (some (.ref C2)))(J6f:nsIn K mainGlobals "NoText"=some (some (.ref C3)))(J6j:nsIn K mainGlobals "BadCount"=some (some (.ref C4)))(J6g:nsIn K mainGlobals "Trapped"=some (some (.ref C5)))(U9j:nsIn K mainGlobals "ReckonError"=some (some (.ref CR)))(cty:typeIn K (.ref CR)=some (.type "type")){dR:ClassData}(ccl:clsIn K CR=some dR)(cex:subIn K (.ref CR) (.type "BaseException")=some true)(sub5:subIn K (.ref C5) (.ref CR)=some true)(xga5:findIn K (.ref C5) "__getattribute__"=some (some (.builtin "BaseException.__getattribute__")))(xgh5:findIn K (.ref C5) "__getattr__"=some none)(xca5:findIn K (.ref C5) "__class__"=some (some (.builtin "object.__class__")))(xob5:mroIn K C5 (.type "object")=some true)(xbe5:subIn K (.ref C5) (.type "BaseException")=some true){d5:ClassData}(xcl5:clsIn K C5=some d5)(U9h:kitOne K (.ref C5) (.ref C1)=some false)(U9r:kitOne K (.ref C5) (.ref C2)=some false)(U9k:kitOne K (.ref C5) (.ref C3)=some false)(V0k:kitOne K (.ref C5) (.ref C4)=some false)(U9u:kitOne K (.ref C5) (.ref C5)=some true)(hv5:kitOne K (.ref C5) (.type "ValueError")=some true){nmT qT:Str}{NT:Addr}{bsT bmT:List Value}{snT:List Str}{suT:List Value}{abT:Bool}{coT:Option Bool}{ddT:Option Addr}{kT0 kT1 kT2 kT3 kT5:Option Value}(lT:K.lookup C5=some (excClassObj nmT qT C5 NT bsT bmT true snT suT abT coT ddT kT0 kT1 kT2 kT3 kT5 "ValueError.__new__")){ocN:Value}{odN:Option Addr}{esN:Array DictEntry}{epN:Nat}{slN:Array (Option Value)}(lN:K.lookup NT=some ⟨ocN,odN,.dict esN epN,slN⟩)(alN:(esN.all fun e=>match e.key with| .str _ _=>true|_=>false)=true)(niT:nsIn K NT "__init__"=some (some (.ref fX))){nmU qU:Str}{NU:Addr}{bsU:List Value}{snU:List Str}{suU:List Value}{abU:Bool}{coU:Option Bool}{ddU:Option Addr}{kU0 kU1 kU2 kU3 kU5:Option Value}(lT1:K.lookup C1=some (excClassObj nmU qU C1 NU bsU bmT true snU suU abU coU ddU kU0 kU1 kU2 kU3 kU5 "ValueError.__new__"))(saT:findIn K (.ref C5) "__setattr__"=some (some (.builtin "object.__setattr__")))(nsg5:findIn K (.ref C5) "signal"=some none){V0c U9n:Option Addr}{U9q:Array (Option Value)}{J8a U9m U9w V0a J7y V0m:Value}(J6k:K.lookup fX=some ⟨J8a,V0c,.func (fnOf "__init__" "Trapped.__init__" (U9 B0a) (U4 B0a) (A5 B0a) .none U9m U9w V0a U9n J7y V0m),U9q⟩)(U3b:codeIn K J7y "Trapped.__init__"=true)(U2h:keepIn K (.ref fX)=true)(fcT:J8a= .type "function")(kTR:kitOne K (.ref C5) (.ref CR)=some true)(q1:excIn K C1 [.type "ValueError",.type "Exception",.type "BaseException",.type "object"] "ValueError.__new__"=true)(q2:excIn K C2 [.type "ValueError",.type "Exception",.type "BaseException",.type "object"] "ValueError.__new__"=true)(q3:excIn K C3 [.type "ValueError",.type "Exception",.type "BaseException",.type "object"] "ValueError.__new__"=true)(q4:excIn K C4 [.type "ValueError",.type "Exception",.type "BaseException",.type "object"] "ValueError.__new__"=true)(a_S:nsIn K mainGlobals "SIGNALS"=some (some (.ref aS))){u0 u1 u2 u3 u4 u5 u6:Tok}{nS:Nat}{odS:Option Addr}{slS:Array (Option Value)}(lS:K.lookup aS=some ⟨.type "tuple",odS,.seq #[.str "void" u0,.str "split" u1,.str "burst" u2,.str "sunk" u3,.str "faint" u4,.str "off" u5,.str "cut" u6] nS,slS⟩)(qu:Fb K CC "trap" "Context.trap" B7d)(ni:Fb K CC "traps" "Context.traps" B3v)(tyT:typeIn K (.ref C5)=some (.type "type"))(subT:subIn K (.ref C5) (.ref C5)=some true)(cty1:typeIn K (.ref C1)=some (.type "type")){dR1:ClassData}(ccl1:clsIn K C1=some dR1)(cex1:subIn K (.ref C1) (.type "BaseException")=some true)(cty3:typeIn K (.ref C3)=some (.type "type")){dR3:ClassData}(ccl3:clsIn K C3=some dR3)(cex3:subIn K (.ref C3) (.type "BaseException")=some true)(cty4:typeIn K (.ref C4)=some (.type "type")){dR4:ClassData}(ccl4:clsIn K C4=some dR4)(cex4:subIn K (.ref C4) (.type "BaseException")=some true)(s13:subIn K (.ref C1) (.ref C3)=some false)(s14:subIn K (.ref C1) (.ref C4)=some false)(s11:subIn K (.ref C1) (.ref C1)=some true)(s53:subIn K (.ref C5) (.ref C3)=some false)(s54:subIn K (.ref C5) (.ref C4)=some false)(s51:subIn K (.ref C5) (.ref C1)=some false)(U4b:nsIn K mainGlobals "Desk"=some (some (.ref CD)))(G9f:Cls K CD)(G8g:makesIn K CD=true)(J0u:keepIn K (.ref CD)=true)(A7t:findIn K (.ref CD) "context"=some none)(J1e:findIn K (.ref CD) "__init__"=some (some (.ref C1v)))(G9d:isFn K (.ref C1v)=true){U4d U3t:Option Addr}{U3w:Array (Option Value)}{U4m U3g U2u U3q J1a U4h:Value}(J0x:K.lookup C1v=some ⟨U4m,U4d,.func (fnOf "__init__" "Desk.__init__" (U9 A4s) (U4 A4s) (A5 A4s) .none U3g U2u U3q U3t J1a U4h),U3w⟩)(G5u:codeIn K J1a "Desk.__init__"=true)(G9a:keepIn K (.ref C1v)=true)(U3n:nsIn K mainGlobals "Root"=some (some (.ref RO)))(G9w:Cls K RO)(G7h:makesIn K RO=true)(G8n:keepIn K (.ref RO)=true)(J0n:findIn K (.ref RO) "__class__"=some (some (.builtin "object.__class__")))(J0z:mroIn K RO (.type "object")=some true)(B9k:findIn K (.ref RO) "top"=some none)(B1g:findIn K (.ref RO) "power"=some none)(G6g:findIn K (.ref RO) "__init__"=some (some (.ref C1u)))(G7j:isFn K (.ref C1u)=true){U2g G7k:Option Addr}{U4n:Array (Option Value)}{U3a J1c G9g G6j D2d G6p:Value}(G9r:K.lookup C1u=some ⟨U3a,U2g,.func (fnOf "__init__" "Root.__init__" (U9 A6q) (U4 A6q) (A5 A6q) (.ref J0e) J1c G9g G6j G7k D2d G6p),U4n⟩)(J0f:codeIn K D2d "Root.__init__"=true)(G7g:keepIn K (.ref C1u)=true){J8b:Tok}{U9s:Nat}{U2y:Option Addr}{U2r:Value}{U4j:Array (Option Value)}(C8g:K.lookup J0e=some ⟨U2r,U2y,.seq #[.int 0 J8b] U9s,U4j⟩)(nj:Fb K RO "first" "Root.first" B2k)(wt:Fb K RO "at" "Root.at" D4n)(G7c:kitOne K (.ref RO) (.ref CE)=some true){tq:Tok}(bq:nsIn K mainGlobals "BEYOND_ALL_POWERS"=some (some (.int 1000 tq)))(a_N:nsIn K mainGlobals "NUMBERS_OF"=some (some (.ref aN))){g0 h0 g1 h1 g2 h2 g3 h3 g4 h4 g5 h5 g6 h6 g7 h7 g8 h8 g9 h9 g10 h10 g11 h11 g12 h12 g13 h13 g14 h14 g15 h15:Tok}{epG:Nat}(lG:K.lookup aN=some ⟨.type "dict",none,.dict #[⟨PyData.keyHash w.params "plus",.str "plus" g0,.int 2 h0⟩,⟨PyData.keyHash w.params "minus",.str "minus" g1,.int 2 h1⟩,⟨PyData.keyHash w.params "times",.str "times" g2,.int 2 h2⟩,⟨PyData.keyHash w.params "fused",.str "fused" g3,.int 3 h3⟩,⟨PyData.keyHash w.params "over",.str "over" g4,.int 2 h4⟩,⟨PyData.keyHash w.params "whole over",.str "whole over" g5,.int 2 h5⟩,⟨PyData.keyHash w.params "rest",.str "rest" g6,.int 2 h6⟩,⟨PyData.keyHash w.params "root",.str "root" g7,.int 1 h7⟩,⟨PyData.keyHash w.params "same power",.str "same power" g8,.int 2 h8⟩,⟨PyData.keyHash w.params "to whole",.str "to whole" g9,.int 1 h9⟩,⟨PyData.keyHash w.params "trimmed",.str "trimmed" g10,.int 1 h10⟩,⟨PyData.keyHash w.params "next up",.str "next up" g11,.int 1 h11⟩,⟨PyData.keyHash w.params "next down",.str "next down" g12,.int 1 h12⟩,⟨PyData.keyHash w.params "lesser",.str "lesser" g13,.int 2 h13⟩,⟨PyData.keyHash w.params "greater",.str "greater" g14,.int 2 h14⟩,⟨PyData.keyHash w.params "compare",.str "compare" g15,.int 2 h15⟩] epG, #[]⟩)(nsG:(aN==sysModules)=false):∃fd:FuncData,(∀(s:Shared) (v:Value),BindsTo s fd ⟨[v],[]⟩ [("_law_script",v)])/\∀Z:Heap,K.In Z ->Z.Ns mainGlobals Y ->B0 l.prog w K Y Z (CX1 l.prog w) 14 fa fd ["_law_script"] (D5h K):=by
 have e:=hfa.symm.trans (fS X G D5t)
 cases e
 obtain⟨_,_,ax⟩:=jf.go2 X G
 obtain⟨_,_,ag⟩:=vf.go1 X G
 obtain⟨_,_,df⟩:=vg.go3 X G
 obtain⟨_,_,a_⟩:=z7.go1 X G
 obtain⟨_,_,aa⟩:=pc.go0 X G
 obtain⟨_,_,cx⟩:=x0.go1 X G
 obtain⟨_,_,ak⟩:=vh.go1 X G
 obtain⟨_,_,af⟩:=mn.go1 X G
 obtain⟨_,_,ah⟩:=vi.go2 X G
 obtain⟨_,_,ay⟩:=tu.go2 X G
 obtain⟨_,_,au⟩:=pf.go2 X G
 obtain⟨_,_,cy⟩:=z8.go3 X G
 obtain⟨_,_,d_⟩:=ph.go3 X G
 obtain⟨_,_,b_⟩:=vj.go2 X G
 obtain⟨_,_,cm⟩:=tz.go2 X G
 obtain⟨_,_,c5⟩:=vk.go1 X G
 obtain⟨_,_,l6⟩:=vm.go1 X G
 obtain⟨qv,_,ai⟩:=pi.go4 X G
 obtain⟨_,_,ar⟩:=t_.go2 X G
 obtain⟨_,_,bi⟩:=pj.go4 X G
 obtain⟨_,_,ap⟩:=jg.go3 X G
 obtain⟨_,_,bd⟩:=u7.go4 X G
 obtain⟨_,_,az⟩:=u8.go2 X G
 obtain⟨_,_,dg⟩:=vn.go2 X G
 obtain⟨_,_,c6⟩:=vp.go2 X G
 obtain⟨_,_,b6⟩:=pk.go2 X G
 obtain⟨_,_,b7⟩:=pq.go3 X G
 obtain⟨_,_,aj⟩:=u9.go3 X G
 obtain⟨_,_,am⟩:=x9.go1 X G
 obtain⟨_,_,di⟩:=vq.go2 X G
 obtain⟨_,_,av⟩:=pr.go2 X G
 obtain⟨_,_,aw⟩:=mo.go2 X G
 obtain⟨_,_,i0⟩:=ua.go3 X G
 obtain⟨_,_,e5⟩:=px.go3 X G
 obtain⟨_,_,qw⟩:=xa.go1 X G
 obtain⟨_,_,l7⟩:=vt.go2 X G
 obtain⟨_,_,dm⟩:=vv.go1 X G
 obtain⟨_,_,e6⟩:=pz.go3 X G
 obtain⟨_,_,du⟩:=vw.go1 X G
 obtain⟨_,_,dv⟩:=vx.go1 X G
 obtain⟨_,_,qx⟩:=xb.go3 X G
 obtain⟨_,_,c9⟩:=jh.go3 X G
 obtain⟨_,_,i4⟩:=uc.go3 X G
 obtain⟨_,_,cz⟩:=xc.go2 X G
 obtain⟨_,_,i5⟩:=xf.go4 X G
 obtain⟨_,_,b9⟩:=ji.go2 X G
 obtain⟨_,_,cf⟩:=jj.go3 X G
 obtain⟨_,_,l9⟩:=vy.go3 X G
 obtain⟨_,_,bj⟩:=p_.go2 X G
 obtain⟨_,_,e7⟩:=qa.go4 X G
 obtain⟨_,_,e8⟩:=qb.go2 X G
 obtain⟨_,_,e9⟩:=qc.go2 X G
 obtain⟨_,_,i6⟩:=ud.go3 X G
 obtain⟨_,_,i7⟩:=ue.go2 X G
 obtain⟨_,_,c_⟩:=mq.go2 X G
 obtain⟨_,_,bv⟩:=qd.go3 X G
 obtain⟨_,_,em⟩:=qe.go3 X G
 obtain⟨_,_,i8⟩:=uf.go3 X G
 obtain⟨_,_,qy⟩:=xg.go2 X G
 obtain⟨_,_,lc⟩:=vz.go3 X G
 obtain⟨_,_,i9⟩:=ug.go3 X G
 obtain⟨_,_,qz⟩:=xh.go4 X G
 obtain⟨_,_,q_⟩:=xi.go3 X G
 obtain⟨_,_,lh⟩:=v_.go3 X G
 obtain⟨_,_,li⟩:=w4.go3 X G
 obtain⟨_,_,lr⟩:=w6.go4 X G
 obtain⟨_,_,d4⟩:=mv.go1 X G
 obtain⟨_,_,cn⟩:=uh.go2 X G
 obtain⟨_,_,bw⟩:=qf.go2 X G
 obtain⟨_,_,c7⟩:=w8.go3 X G
 obtain⟨_,_,d7⟩:=mw.go3 X G
 obtain⟨_,_,lv⟩:=w9.go3 X G
 obtain⟨_,_,b8⟩:=qg.go1 X G
 obtain⟨_,_,ia⟩:=ui.go1 X G
 obtain⟨_,_,cg⟩:=jk.go2 X G
 obtain⟨_,_,d8⟩:=mx.go2 X G
 obtain⟨_,_,bx⟩:=xj.go1 X G
 obtain⟨_,_,cq⟩:=uj.go1 X G
 obtain⟨_,_,cr⟩:=uk.go1 X G
 obtain⟨_,_,ci⟩:=jm.go2 X G
 obtain⟨_,_,e_⟩:=qh.go1 X G
 obtain⟨_,_,cj⟩:=jn.go1 X G
 obtain⟨_,_,bz⟩:=qi.go1 X G
 obtain⟨_,_,ib⟩:=ul.go1 X G
 obtain⟨_,_,ic⟩:=um.go1 X G
 obtain⟨_,_,ie⟩:=uo.go2 X G
 obtain⟨_,_,db⟩:=my.go2 X G
 obtain⟨_,_,l_⟩:=wa.go3 X G
 obtain⟨_,_,r8⟩:=xk.go3 X G
 obtain⟨_,_,gb⟩:=qj.go3 X G
 obtain⟨_,_,bc⟩:=jo.go1 X G
 obtain⟨_,_,rc⟩:=xl.go2 X G
 obtain⟨_,_,xt⟩:=xm.go1 X G
 obtain⟨_,_,m7⟩:=wd.go3 X G
 obtain⟨_,_,m8⟩:=we.go4 X G
 obtain⟨_,_,rd⟩:=xn.go2 X G
 obtain⟨_,_,c8⟩:=wg.go2 X G
 obtain⟨_,_,re⟩:=xp.go1 X G
 obtain⟨_,_,m9⟩:=wj.go1 X G
 obtain⟨_,_,ig⟩:=uq.go1 X G
 obtain⟨_,_,dc⟩:=mz.go1 X G
 obtain⟨_,_,ma⟩:=wk.go1 X G
 obtain⟨_,_,mh⟩:=wm.go2 X G
 obtain⟨_,_,rf⟩:=xq.go4 X G
 obtain⟨_,_,mi⟩:=wn.go2 X G
 obtain⟨_,_,rg⟩:=xr.go2 X G
 have V0q:=B4q (ps:=["_law_script"]) (st:=C2z) X G D5t J0h G5q G8u fun _ _ _ _ _ _ us hl=>match us,hl with| [_],_=>rfl
 have O:Own Y:=z9.go X G
 have V0b:Mk0 K W0:=⟨G6v,J0m,G7t⟩
 obtain⟨_,_,rj,rk,ny⟩:=qk.go1
 have WC0:B5z K Y "Down" W0 CW:=⟨fS X G U3h,G9y,V0b,G7x,sn,tk,G8w,J0r⟩
 have U9t:Mk0 K W1:=⟨G6e,G6b,G8c⟩
 obtain⟨_,_,rn,rp,n_⟩:=ql.go1
 have WC1:B5z K Y "Up" W1 CW:=⟨fS X G U4e,G7y,U9t,G7v,sn,tk,G8a,G5t⟩
 have U9v:Mk0 K W2:=⟨G8r,G9x,G7w⟩
 obtain⟨_,_,rq,r_,o0⟩:=qm.go1
 have WC2:B5z K Y "Floor" W2 CW:=⟨fS X G U4f,G6m,U9v,G5x,sn,tk,G9c,G9s⟩
 have V0n:Mk0 K W3:=⟨J0d,J0t,J0s⟩
 obtain⟨_,_,sf,sj,o8⟩:=qo.go1
 have WC3:B5z K Y "Ceiling" W3 CW:=⟨fS X G U4g,J0k,V0n,G8z,sn,tk,G6z,G5v⟩
 have V0d:Mk0 K W4:=⟨J0v,G8s,G9e⟩
 obtain⟨_,_,sk,sv,o9⟩:=qp.go1
 have WC4:B5z K Y "HalfUp" W4 CW:=⟨fS X G U3j,G6s,V0d,G8m,sn,tk,G8f,J0q⟩
 have V0e:Mk0 K W5:=⟨G7u,G6u,G6x⟩
 obtain⟨_,_,sx,sy,oe⟩:=qq.go1
 have WC5:B5z K Y "HalfDown" W5 CW:=⟨fS X G U3e,G8d,V0e,J0w,sn,tk,G7b,G6t⟩
 have V0h:Mk0 K W6:=⟨G5r,G6q,J1b⟩
 obtain⟨_,_,s_,t7,og⟩:=qr.go1
 have WC6:B5z K Y "HalfEven" W6 CW:=⟨fS X G U3y,G8y,V0h,G8x,sn,tk,J0y,G7p⟩
 have V0r:Mk0 K W7:=⟨G8b,J0c,J0g⟩
 obtain⟨_,_,t8,t9,oh⟩:=qt.go1
 have WC7:B5z K Y "FiveUp" W7 CW:=⟨fS X G U3r,G6n,V0r,G9z,sn,tk,G7a,G6a⟩
 let cw:Wy ->Addr:=fun y=>match y with| .down=>W0| .up=>W1| .floor=>W2| .ceiling=>W3| .halfUp=>W4| .halfDown=>W5| .halfEven=>W6| .fiveUp=>W7
 have W:∀y:Wy,B5z K Y y.cls (cw y) CW:=fun y=>match y with| .down=>WC0| .up=>WC1| .floor=>WC2| .ceiling=>WC3| .halfUp=>WC4| .halfDown=>WC5| .halfEven=>WC6| .fiveUp=>WC7
 have vc:=A4t (st:=C1a) G7r G6k G6r
 have V0g:=vc.binds (ps:=["self","kind","sign","figures","power"]) fun _ _ _ _ _ _ us hl=>match us,hl with| [_,_,_,_,_],_=>rfl
 have V4n:Mk K CN C1s:=⟨G8j,G9n,G8k,G7q⟩
 have N:Num K Y CN:=⟨fS X G U2m,G7n,B5d,B5a,A7u,B1k,G8p,sn,tk,G9j,C5d⟩
 obtain⟨_,_,ii,ij,gc⟩:=gq.go4
 obtain⟨_,_,j_,k7,ik⟩:=jp.go2
 obtain⟨_,_,il,im,gd⟩:=gu.go4
 obtain⟨_,_,k8,k9,io⟩:=jq.go2
 obtain⟨_,_,ip,iq,gi⟩:=gv.go4
 obtain⟨_,_,ka,kc,ir⟩:=jr.go2
 obtain⟨_,_,iu,iw,gj⟩:=gw.go4
 obtain⟨_,_,kd,ke,iy⟩:=jt.go2
 obtain⟨_,_,iz,i_,gk⟩:=gy.go4
 obtain⟨_,_,kf,kg,j0⟩:=ju.go2
 obtain⟨_,_,j1,j2,gm⟩:=gz.go4
 obtain⟨_,_,kh,ki,j3⟩:=jv.go2
 obtain⟨_,_,j4,j5,gn⟩:=g_.go4
 obtain⟨_,_,kj,kl,j6⟩:=jw.go2
 obtain⟨_,_,j7,j8,gp⟩:=h_.go4
 obtain⟨_,_,km,kn,j9⟩:=jx.go2
 have V0p:=C3u (st:=A0z) J0p G6d G8t
 have V4h:Mk K CC B9m:=⟨G9m,J0b,G9v,G8e⟩
 obtain⟨_,_,oj,ol,ko⟩:=m_.go1
 obtain⟨_,_,kq,kt,ja⟩:=jy.go1
 obtain⟨_,_,ut,uu,tf⟩:=ur.go1
 obtain⟨_,_,ku,ky,jc⟩:=jz.go2
 obtain⟨_,_,om,on,kz⟩:=n8.go1
 have U9x:=C3u (st:=A6v) G6w G7z G9b
 have V4g:Mk K CQ C1t:=⟨G9k,G8h,G7e,G6f⟩
 obtain⟨oo,_,oq,ou,k_⟩:=n9.go1
 obtain⟨wu,_,wv,mj,jd⟩:=wo.go2
 have xk5:D1v K C5:=⟨xga5,xgh5,xca5,sn,tk,xob5,xbe5,by rw[xcl5];rfl⟩
 have nkT:nsOkIn K NT=true:=by unfold nsOkIn;rw[lN];exact alN
 have tlT:tailIn K D4y bmT=true:=by
   have z:=q1
   unfold excIn at z
   rw[lT1] at z
   simp only[excClassObj,cK] at z
   exact z.1.1.2
 have y6:=A4t (st:=B0a) J6k U3b U2h
 have V4k:=y6.binds (ps:=["self","signal"]) fun _ _ _ _ _ _ us hl=>match us,hl with| [_,_],_=>rfl
 have XI5:D8z K C5 fX:=⟨⟨_,_,_,_,_,_,_,_,_,_,_,_,_,_,_,lT,nkT,niT,tlT⟩,⟨_,J6k,fcT⟩,saT,xob5⟩
 have SG:U1z K Y aS:=⟨fS X G a_S,⟨_,lS,rfl⟩,fun H=> .inr ⟨_,_,_,lS,rfl,rfl,C6 (by show 7<=1000;decide),.cons ⟨_,rfl⟩ (.cons ⟨_,rfl⟩ (.cons ⟨_,rfl⟩ (.cons ⟨_,rfl⟩ (.cons ⟨_,rfl⟩ (.cons ⟨_,rfl⟩ (.cons ⟨_,rfl⟩ (.nil)))))))⟩⟩
 obtain⟨_,_,tj,tm,ow⟩:=qu.go2
 obtain⟨_,_,oz,o_,l0⟩:=ni.go1
 have vd:=A4t (st:=A4s) J0x G5u G9a
 have V0f:=vd.binds (ps:=["self"]) fun _ _ _ _ _ _ us hl=>match us,hl with| [_],_=>rfl
 have V4j:Mk K CD C1v:=⟨G8g,J1e,G9d,J0u⟩
 have U9y:=C3u (st:=A6q) G9r J0f G7g
 have V4m:Mk K RO C1u:=⟨G7h,G6g,G7j,G8n⟩
 obtain⟨p4,_,p5,p6,l5⟩:=nj.go1
 obtain⟨wx,_,wz,w_,uw⟩:=wt.go2
 have C:B3p K Y CC:=⟨fS X G U3u,G6y,B5e,B5c,B1f,B5b,B1h,A7s⟩
 have B1:Err K Y "BadContext" C1:=⟨fS X G J6h,q1⟩
 have B2:Err K Y "BadNumber" C2:=⟨fS X G U3d,q2⟩
 have B3:Err K Y "NoText" C3:=⟨fS X G J6f,q3⟩
 have B4:Err K Y "BadCount" C4:=⟨fS X G J6j,q4⟩
 have R:B0j K Y CQ CE:=⟨fS X G U3x,fS X G J6e,G5w,B9n,A9j,B1j,J1d,sn,tk,G7m,G9q⟩
 have b4:=B4r (fd:=fnOf "__init__" "Context.__init__" (U9 A0z) (U4 A0z) (A5 A0z) (.ref D5u) D2g D2c D2j D2f C5e D2h) (ps:=["self","room","way","least","most"]) (ds:=[]) rfl D5v rfl fun us hl=>by obtain⟨a,b,c,d,e,rfl⟩:=V3n (C6b hl);exact⟨_,rfl,rfl⟩
 refine⟨fnOf "law" "law" (U9 C2z) (U4 C2z) (A5 C2z) .none G9u G7d G5z G9t D2k J0j,fun s v=> .of_eq rfl,fun Z _ _=>?_⟩
 have WN:∀y:Wy,D9m l.prog w K Y Z (cw y) y.name:=fun y=>match y with| .down=>⟨_,_,ny,U7r rj,rk⟩| .up=>⟨_,_,n_,U6m rn,rp⟩| .floor=>⟨_,_,o0,U7c rq,r_⟩| .ceiling=>⟨_,_,o8,U6c sf,sj⟩| .halfUp=>⟨_,_,o9,U5b sk,sv⟩| .halfDown=>⟨_,_,oe,U6u sx,sy⟩| .halfEven=>⟨_,_,og,U5g s_,t7⟩| .fiveUp=>⟨_,_,oh,U5s t8,t9⟩
 have U:∀y:Wy,U7w l.prog w K Y Z (cw y) y:=fun y=>match y with| .down=>⟨_,_,gc,U8q ii,ij⟩| .up=>⟨_,_,gd,U6v il,im⟩| .floor=>⟨_,_,gi,U7h ip,iq⟩| .ceiling=>⟨_,_,gj,U6y iu,iw⟩| .halfUp=>⟨_,_,gk,U4q iz,i_⟩| .halfDown=>⟨_,_,gm,U6p j1,j2⟩| .halfEven=>⟨_,_,gn,U8c j4,j5⟩| .fiveUp=>⟨_,_,gp,U5k j7,j8⟩
 have E2:∀y:Wy,U8s l.prog w K Y Z (cw y) y:=fun y=>match y with| .down=>⟨_,_,ik,U7a j_,k7⟩| .up=>⟨_,_,io,U7v k8,k9⟩| .floor=>⟨_,_,ir,U5p ka,kc⟩| .ceiling=>⟨_,_,iy,U6q kd,ke⟩| .halfUp=>⟨_,_,j0,U8f kf,kg⟩| .halfDown=>⟨_,_,j3,U6r kh,ki⟩| .halfEven=>⟨_,_,j6,U5a kj,kl⟩| .fiveUp=>⟨_,_,j9,U6w km,kn⟩
 have Gb:=D0j (P:=l.prog) (w:=w) (Z:=Z) e6 cy O T B1
 have Gw:=G3t (P:=l.prog) (w:=w) (Z:=Z) dm O T B1 W
 have MC:D5d l.prog w K Y Z CC C1 B9m _:=⟨V4h,C9r V0p e6 dm Gb Gw C W WN⟩
 have MR : B3n l.prog w K Y Z CQ C1t (fnOf "__init__" "Ratio.__init__" (U9 A6v) (U4 A6v) (A5 A6v) (.ref G7f) G7s G6c G6h G5y D2e G5s) (.int 0 J7z) (fun us ws=>match ws with| [a]=>us++ [a]|_=>[]) (fun us ws=>match ws with| [a]=>us++ [a]|_=>[]):=
   { m :=V4g
     g:=D9p U9x R
     b3:=B4r rfl C8f rfl fun us hl=>by obtain⟨a,b,c,d,rfl⟩:=U8e (C6b hl);exact⟨_,rfl,rfl⟩
     b2:=B4r rfl C8f rfl fun us hl=>by obtain⟨a,b,c,rfl⟩:=J1w (C6b hl);exact⟨_,rfl,rfl⟩
     r0:=⟨_,rfl⟩
     kP := ⟨(fun s us ws XK hl=>by
         rcases ws with _|⟨p,_|⟨q,t⟩⟩
         . cases hl
         . obtain⟨a,b,c,rfl⟩:=J1w (C6b hl)
           exact binds_K XK rfl C8f rfl rfl rfl
         . cases hl),fun r z=>match z with
       | .cons a .nil=>r.append (.cons a .nil)
       | .nil=> .nil
       | .cons _ (.cons _ _)=> .nil⟩
     eP:=fun _ _ _ _=>rfl}
 have M:A4g l.prog w K Y Z CN C1s _:=⟨V4n,J2k vc N,V0g⟩
 have Gn:=G1b (P:=l.prog) (w:=w) (Z:=Z) du O T B1 SG
 have Go:=G1t (P:=l.prog) (w:=w) (Z:=Z) dv SG
 have GX:=D7g (P:=l.prog) (w:=w) (Y:=Y) (Z:=Z) y6 XI5 nsg5
 have MF:Has l.prog w K Y Z CC "flags" 1 ["self"] (A3j CC):=⟨_,_,ko,C7q oj C O,ol⟩
 have ML:Has l.prog w K Y Z CC "lowest" 1 ["self"] (B9d CC):=⟨_,_,ja,D6y kq C,kt⟩
 have MW:Has l.prog w K Y Z CC "way" 2 ["self"] (B9g CC cw):=⟨_,_,tf,D8s ut dm Gw C,uu⟩
 have ME:Has l.prog w K Y Z CC "clear" 1 ["self"] (A7n CC):=⟨_,_,kz,C6v om C,on⟩
 have MD:Has l.prog w K Y Z CC "raised" 3 ["self","names"] (B9h K CC C1 C5):=⟨_,_,jc,D6f ku du Gn dv Go C (fS X G J6g) XI5 GX V4k,ky⟩
 have CM:A3k l.prog w K Y Z CC C1 C5 CW cw:=⟨C,MW,ML,MD,W,U,E2⟩
 have aq:=D9y (P:=l.prog) (w:=w) (Z:=Z) ak O T B2 N
 have tt:=D9n df d_ cy O T B2 N M
 have cu:=J8y a_ d_ cy O T B2 N M
 have ac:=D1e aa N M
 have p7:=J3v (P:=l.prog) (w:=w) (Z:=Z) cx O N
 have Gto:=G2q (P:=l.prog) (w:=w) (Z:=Z) ag ax (B1v ax)
 have ve:=D6z (P:=l.prog) (w:=w) (Z:=Z) cm
 have Gwl:=G0f c5 ag Gto
 have Gat:=J9n wv ag Gto cm ve R O
 have RM:D9c l.prog w K Y Z CQ oo wu _ _:=⟨k_,D8r oq c5 Gwl jd Gat mj R,ou,jd,Gat,mj⟩
 have y7:=C8p bi N M
 have p8:=C2e ap CM
 have uy:=D7h bd ag Gto CM N M
 have p9:=D7s az cx p7 CM N
 have u_:=G4m c6 ag Gto CM N M
 have y8:=G0u dg c6 u_ a_ cu CM
 have Gsr:=C9s (P:=l.prog) (w:=w) (Z:=Z) b6
 have Gsl:=C9z b7 CM
 have bh:=D7a aj CM N M O
 have y9:=D6n ar CM RM R O
 have RQ:D8x K Y RO CE:=⟨fS X G U3n,fS X G J6e,G9w,B9k,B1g,J0n,sn,tk,J0z,G7c⟩
 have MQ : J7u l.prog w K Y Z RO C1u (fnOf "__init__" "Root.__init__" (U9 A6q) (U4 A6q) (A5 A6q) (.ref J0e) J1c G9g G6j G7k D2d G6p) (.int 0 J8b) (fun us ws=>match ws with| [a]=>us++ [a]|_=>[]) (fun us ws=>match ws with| [a]=>us++ [a]|_=>[]):=
   { m :=V4m
     g:=D9e U9y RQ
     b3:=B4r rfl C8g rfl fun us hl=>by obtain⟨a,b,c,rfl⟩:=J1w (C6b hl);exact⟨_,rfl,rfl⟩
     b2:=B4r rfl C8g rfl fun us hl=>by obtain⟨a,b,rfl⟩:=J8j (C6b hl);exact⟨_,rfl,rfl⟩
     r0:=⟨_,rfl⟩
     kP := ⟨(fun s us ws XK hl=>by
         rcases ws with _|⟨p,_|⟨q,t⟩⟩
         . cases hl
         . obtain⟨a,b,rfl⟩:=J8j (C6b hl)
           exact binds_K XK rfl C8g rfl rfl rfl
         . cases hl),fun r z=>match z with
       | .cons a .nil=>r.append (.cons a .nil)
       | .nil=> .nil
       | .cons _ (.cons _ _)=> .nil⟩
     eP:=fun _ _ _=>rfl}
 have QM:U8z l.prog w K Y Z RO p4 wx _ _:=⟨l5,D8f p5 c5 Gwl RQ,p6,uw,U0h wz ag Gto cm ve l6 (G0s l6 ag Gto c5 Gwl) RQ O,w_⟩
 have XR:=V1d RM R
 have XQ:=V0w QM RQ
 have GsR:=B5h (CE:=CE) (P:=l.prog) (w:=w) (Z:=Z) ai ar (B7a (CE:=CE) ar CM XR O) bi y7 ap p8 bd uy az p9 dg y8 b6 Gsr b7 Gsl CM XR N
 have GsQ:=B5h (CE:=CE) (P:=l.prog) (w:=w) (Z:=Z) ai ar (B7a (CE:=CE) ar CM XQ O) bi y7 ap p8 bd uy az p9 dg y8 b6 Gsr b7 Gsl CM XQ N
 have dz:B0 l.prog w K Y Z (CX1 l.prog w) 6 qv _ ["context","sign","exact","ideal"] (A1r CN CC C5 CQ):=B0.weak (fun _ _ _ _ h=>C7c h) GsR
 have MT:Has l.prog w K Y Z CC "trap" 2 ["self","names"] (B4u K CC C1):=⟨_,_,ow,J1q tj du Gn dv Go C,tm⟩
 have MTS:Has l.prog w K Y Z CC "traps" 1 ["self"] (A7r CC):=⟨_,_,l0,C6q oz C O,o_⟩
 have DC:C7v K Y CD:=⟨fS X G U4b,G9f,A7t⟩
 have GD:C7y l.prog w K aN NUM:=D6w lG nsG
 have XE:D5j K Y C3 C1 C4 C5:={g2:=fS X G J6f,g4:=fS X G J6j,g3:=fS X G J6h,gT:=fS X G J6g,c2:=⟨cty3,by rw[ccl3];rfl,cex3⟩,c4:=⟨cty4,by rw[ccl4];rfl,cex4⟩,c3:=⟨cty1,by rw[ccl1];rfl,cex1⟩,cT:=⟨tyT,by unfold clsIn;rw[lT];rfl,xbe5⟩,s32:=s13,s34:=s14,s33:=s11,t2:=s53,t4:=s54,t3:=s51,tT:=subT,k:=xk5,dict:=⟨_,by unfold clsIn;rw[lT],rfl⟩,nosig:=nsg5}
 have b0:=B4r (fd:=fnOf "__init__" "Context.__init__" (U9 A0z) (U4 A0z) (A5 A0z) (.ref D5u) D2g D2c D2j D2f C5e D2h) (ps:=["self","room","way","least","most"]) (ds:=[.int 9 G8q,.str "half even" G8v,.none,.int 60 J0a]) rfl D5v rfl fun us hl=>by obtain⟨a,rfl⟩:=V3j (C6b hl);exact⟨_,rfl,rfl⟩
 have M0:G4y l.prog w K Y Z CC C1 B9m _ (.int 9 G8q) (.str "half even" G8v) (.int 60 J0a):=⟨MC,b0,⟨_,rfl⟩,⟨_,rfl⟩,⟨_,rfl⟩⟩
 have MDk:J7t l.prog w K Y Z CD CC C1v _:=⟨V4j,C6m vd M0 DC C,V0f⟩
 have ao:=D8k af ak aq
 have al:=G3c (P:=l.prog) (w:=w) (Z:=Z) ah O N
 have Gun:=D8g (P:=l.prog) (w:=w) (Z:=Z) ay N
 have Gvo:=J2c am aa ac CM
 have Gsp:=G3x di a_ cu CM
 have ya:=J5s i5 ay Gun am Gvo a_ cu aj bh di Gsp N
 have Gov:=J5t qx af ao ah al cz (D2x cz N) i5 ya ay Gun aj bh ai dz aa ac CM N MR R
 have Gwa:=D0t au ag Gto N
 have yb:=C5z au ag Gto N
 have yc:=C4d b9 au yb N O
 have Gwo:=C2w c9 af ao ah al cz (D2x cz N) i5 ya ay Gun aj bh ai dz aa ac am Gvo b9 yc ag Gto CM N MR R O
 have je:=D7t (CB:=C1) (CW:=CW) (cw:=cw) (P:=l.prog) (w:=w) (Z:=Z) av ak aq aj bh ai dz MR R N
 have Gre:=D6p i4 af ao ah al aa ac am Gvo av je b9 yc ag Gto au yb CM N M O
 have zn:=J3k qy ak aq aa ac aj bh am Gvo ai GsQ N MQ RQ
 have Gea:=C5v d7 am Gvo N
 have Gnos:=G3h lv CM WN N
 have va:=G4n c7 ah al d7 Gea au Gwa aj bh lv Gnos ai dz CM N MR R O
 have zo:=J3j q_ af ao ah al aa ac c7 va
 have yd:=G0w lh af ao ah al aa ac c7 va N M
 have Gin:=C7b (P:=l.prog) (w:=w) (Z:=Z) d4 N
 have ye:=D8m cn ah al d4 Gin
 have yf:=J3m bw ah al ay Gun a_ cu N M
 have yg:=G4e li af ao ah al aa ac av je cn ye bw yf am Gvo
 have Gfus:=D9q lr af ao ah al aa ac c7 va cn ye bw yf am Gvo
 have Gco:=C6n aw af ao ah al qw (J4j qw N) l7 (G3w l7) au Gwa O N
 have Gles:=D7m i0 aw Gco aa ac av je
 have Ggre:=C8z e5 aw Gco aa ac av je
 have Gpn:=J3b qz am Gvo aj bh di Gsp
 have Gpe:=D8u i9 df tt a_ cu aj bh CM
 have Gpw:=U0c lc ak aq b_ (C6w b_ cy O T B4) aa ac i9 Gpe qz Gpn ax (B1v ax) ai dz N MR R O
 have Gpa:=D0r bj N MR R RM
 have Gtw:=C9v e8 ak aq ap p8 bj Gpa N M
 have Gtm:=C8j e9 ak aq aj bh ai dz N MR R (fS X G bq)
 have Gsm:=C9u e7 b6 Gsr b7 Gsl cx p7 CM N
 have Gmv:=G2t l9 bj Gpa ap p8 ag Gto az p9 am Gvo e7 Gsm CM N M
 have Gsa:=C3x cf af ao ah al aa ac am Gvo l9 Gmv CM N
 have Gsc:=D6a i6 ak aq b_ (C6w b_ cy O T B4) av je N M
 have Gfar:=J9x em ar y9 bd uy az p9 a_ cu CM RM R
 have zp:=J3y i8 ar y9 c6 u_ ag Gto N M CM RM R
 have Gst:=C9q bv aa ac c6 u_ em Gfar i8 zp N M CM MR R
 have Gup:=D8j i7 ak aq bv Gst
 have Gdn:=D7p c_ ak aq bv Gst
 have S2:U1x l.prog w K Y Z CN CC C5:=⟨⟨_,_,q_,J6w zo⟩,⟨_,_,lh,J6w yd⟩,⟨_,_,li,U6j yg⟩,⟨_,_,qx,(U5m Gov).mono (by decide)⟩,⟨_,_,c9,(U8k Gwo).mono (by decide)⟩,⟨_,_,i4,(U5n Gre).mono (by decide)⟩,⟨_,_,cf,(U4p Gsa).mono (by decide)⟩,⟨_,_,i0,J6u Gles⟩,⟨_,_,e5,J6u Ggre⟩⟩
 have S1:U2b l.prog w K Y Z CN CC C5:=⟨⟨_,_,qy,(U5c zn).mono (by decide)⟩,⟨_,_,e8,(U6a Gtw).mono (by decide)⟩,⟨_,_,e9,(U6z Gtm).mono (by decide)⟩,⟨_,_,i7,(J6z Gup).mono (by decide)⟩,⟨_,_,c_,(J6z Gdn).mono (by decide)⟩⟩
 have SF:Op l.prog w K Y Z "fused" ["context","one","other","third"] B4f (sp3 CN CC C5):=⟨_,_,lr,U5d Gfus⟩
 have SPo:Op l.prog w K Y Z "to_power" ["context","one","count"] B3u (spC CN CC C5 20 Fpo):=⟨_,_,lc,(U8a Gpw).mono (by decide)⟩
 have SS:Op l.prog w K Y Z "scaled" ["context","one","count"] A9y (spC CN CC C5 100 Fsc):=⟨_,_,i6,U4z Gsc⟩
 have Gsg:=D6g (P:=l.prog) (w:=w) (Z:=Z) cq
 have Gns:=D8p (P:=l.prog) (w:=w) (Z:=Z) cr
 have Gnf:=D0e (P:=l.prog) (w:=w) (Z:=Z) bz ib B3
 have Gfr:=C9d e_ bz Gnf B3 O
 have Gsh:=C2q cj bz Gnf cr Gns cq Gsg B3 O
 have Gpr:=C2c ci e_ Gfr cj Gsh df tt O
 have Grd:=J4d bx aa ac cr Gns cq Gsg a_ cu ci Gpr B3 O T
 have Gwp:=C2b (P:=l.prog) (w:=w) (Z:=Z) cg O
 have Gwl2:=C7m (P:=l.prog) (w:=w) (Z:=Z) d8 O
 have Gww:=D6h ia cx p7 cg Gwp d8 Gwl2 N O
 have Gwr:=C9h b8 ak aq ia Gww N
 have Gcr:=C3w (P:=l.prog) (w:=w) (Z:=Z) bc ib B4 O
 have Gsig:=J2q r8 C MF ME MT T
 have Gch:=G0y l_ bc Gcr DC CM WN MC b4 MF MT MTS T O
 have Gcd:=C9f gb bx Grd bc Gcr SPo SS b8 Gwr O
 have Gof2:=G2s m8 S2
 have Gof1:=G4h m7 S1
 have Grc:=J2v rc bx Grd m8 Gof2 m7 Gof1 SF aw Gco xt b8 Gwr GD (fS X G a_N) O
 have Gli:=J1y db l_ Gch r8 Gsig gb Gcd rc Grc DC
 have Gan:=D6q ie db Gli XE
 have Gpl:=D8q ic ie Gan MDk DC
 have zq:=J1r (P:=l.prog) (w:=w) (Z:=Z) rd O
 have vb:=G4p (P:=l.prog) (w:=w) (Z:=Z) c8
 have zr:=J9a (P:=l.prog) (w:=w) (Z:=Z) re O
 have Gltx:=G2x m9 c8 vb re zr O
 have Glnm:=D8b (P:=l.prog) (w:=w) (Z:=Z) ig O
 have Glse:=C7n dc ig Glnm O
 have Glop:=G0b ma m9 Gltx c8 vb O
 have Glo2:=J5h rf S2
 have Glrk:=G2y mh bx Grd SPo SS S1 SF rf Glo2 O
 have Glsc:=G0g mi XE CM WN MC b4 MF MT MTS T O
 have Glan:=J3u rg mi Glsc mh Glrk bx Grd b8 Gwr aw Gco XE C MF ME MT
 exact U0e V0q rd zq c8 vb dc Glse ma Glop rg Glan ic Gpl M0 C T O
def walk{l:OpenLaw}{g:World ->Heap ->Prop}{d:DefRec}{K:Params ->Frag}(i:l.most=some 63)(c:d.params.defaults=[])(m:∀(w:World) (h:Heap),g w h ->(K w.params).In h)(F:∀(w:World) (Y:Str ->Option Value) (e:Addr) (h:Heap),(K w.params).In h ->h.Ns mainGlobals Y ->Y d.name=some (.ref e) ->
     ∃fd:FuncData,(∀(s:Shared) (u:Value),BindsTo s fd ⟨[u],[]⟩ [("_law_script",u)])/\∀Z:Heap,(K w.params).In Z ->Z.Ns mainGlobals Y ->B0 l.prog w (K w.params) Y Z (CX1 l.prog w) 14 e fd ["_law_script"] ((D5h (K w.params)))):
   WalkO q b p g l.row.toRowW d [] (fun f vs=>PySem.call f vs):=
 L2.walk_of (n:=63) (k:=14) (x:="_law_script") (CX:=fun w=>CX1 l.prog w) (sp:=fun w=>(D5h (K w.params))) i (by decide) c ⟨rfl,by decide,by decide⟩ m F (fun _ _ a ns j _ o=>⟨a,ns,rfl,j,o,fun _=>rfl⟩) fun _ _ _ _ _ z=>by
   obtain⟨_,_,_,_,_,_,_,_,_,_,z,_⟩:=z
   exact z
end TR
open PySem PySem.W PyProof.Rows
set_option maxRecDepth 100000 in
set_option maxHeartbeats 0 in
theorem PySem.Challenge.cw_tenreckon_k32_desk_played_holds : PySem.Challenge.rw_tenreckon_k32_desk_played.Holds := by
 refine hd ?_
 k_fill
 refine TR.walk (l := PySem.Challenge.rw_tenreckon_k32_desk_played) rfl rfl (fun w h Y => TR.kInQ_of Y) ?F
 case F =>
   intro w mg fa h KX G hmg
   refine' TR.all_mk KX G hmg ?Za ?Zb ?Zc ?Zd ?Ze ?Zf ?Zg ?Zh ?Zi ?Zj ?Zk ?Zm ?Zn ?Zo ?Zq ?Zr ?Zt ?Zu ?Zv ?Zw ?Zx ?Zy ?Zz ?ZC ?ZD ?ZF ?ZG ?ZJ ?ZK ?ZL ?ZM ?ZP ?ZQ ?ZR ?ZS ?ZV ?ZW ?ZX ?ZZ ?Z0 ?Z1 ?Z2 ?Z3 ?Z4 ?Z5 ?Z6 ?Z7 ?Z8 ?Z9 ?Yb ?Yc ?Yd ?Ye ?Yg ?Yh ?Yi ?Yj ?Yk ?Yl ?Ym ?Yn ?Yo ?Yp ?Yq ?Yr ?Ys ?Yt ?Yu ?Yv ?Yw ?Yx ?Yy ?Yz ?YB ?YC ?YD ?YF ?YG ?YH ?YJ ?YK ?YL ?YM ?YQ ?YS ?YT ?YW ?YX ?YZ ?Y0 ?Y4 ?Y5 ?Y6 ?Y7 ?Y8 ?Y9 ?Xa ?Xb ?Xc ?Xd ?Xe ?Xf ?Xg ?Xh ?Xi ?Xj ?Xk ?Xl ?Xm ?Xn ?Xo ?Xp ?Xq ?Xr ?Xu ?Xv ?Xw ?Xx ?Xy ?Xz ?XC ?XD ?XF ?XH ?XJ ?XK ?XM ?XN ?XQ ?XR ?XS ?XX ?X3 ?X4 ?X5 ?X6 ?X7 ?X8 ?Wa ?Wb ?Wc ?Wd ?We ?Wf ?Wg ?Wh ?Wi ?Wj ?Wk ?Wl ?Wm ?Wn ?Wo ?Wq ?Wr ?Ws ?Wt ?Wu ?Wv ?Ww ?Wx ?Wy ?Wz ?WD ?WF ?WK ?WL ?WM ?WN ?WP ?WQ ?WR ?WT ?WW ?WX ?WY ?W0 ?W2 ?W3 ?W4 ?W5 ?W6 ?W7 ?W8 ?W9 ?Va ?Vb ?Vc ?Vd ?Ve ?Vf ?Vg ?Vh ?Vi ?Vj ?Vk ?Vl ?Vm ?Vn ?Vo ?Vp ?Vq ?Vr ?Vs ?Vt ?Vu ?Vv ?Vw ?Vx ?Vy ?Vz ?VB ?VD ?VF ?VG ?VH ?VJ ?VK ?VL ?VM ?VN ?VP ?VR ?VV ?V0 ?V1 ?V2 ?V3 ?V4 ?V5 ?V6 ?V7 ?V8 ?V9 ?Ua ?Ub ?Uc ?Ud ?Ue ?Ug ?Uh ?Ui ?Uj ?Uk ?Ul ?Um ?Un ?Uo ?Up ?Uq ?Ur ?Us ?Ut ?Uu ?Uv ?Uw ?Ux ?Uy ?Uz ?UG ?UJ ?UL ?UT ?UV ?UW ?U0 ?U3 ?U4 ?U5 ?U6 ?U7 ?U8 ?U9 ?Ja ?Jb ?Jc ?Jd ?Je ?Jf ?Jg ?Jh ?Ji ?Jj ?Jk ?Jl ?Jm ?Jo ?Jp ?Jq ?Jr ?Js ?Jt ?Ju ?Jv ?Jw ?Jx ?Jy ?Jz ?JB ?JC ?JD ?JF ?JG ?JH ?JK ?JL ?JM ?JN ?JP ?JQ ?JR ?JS ?JT ?JV ?JW ?JX ?JZ ?J0 ?J1 ?J2 ?J3 ?J4 ?J5 ?J6 ?J7 ?J8 ?J9 ?Qa ?Qc ?Qd ?Qe ?Qf ?Qg ?Qh ?Qi ?Qj ?Qk ?Ql ?Qm ?Qn ?Qo ?Qp ?Qq ?Qs ?Qt ?Qu ?Qv ?Qw ?Qx
   case Xk|Xl|Xm|Xn|Xq|Xr|Xu|Xv|Xx|Xy|Xz|XC|XD|XJ|XM|XN|XQ|XR|XS|X4|X6|X7|X8|Wa|Wb|We|Wg|Wh|Wi|Wj|Wk|Wn|Wq|Wr|Ws|Wt|Wu|Wx|Wz|WD => k_is
   case WF|WK|WL|WP|WR|WT|WW|WX|WY|W3|W5|W6|W7|W8|W9|Vc|Ve|Vf|Vg|Vh|Vi|Vj|Vk|Vl|Vm|Vn|Vo|Vp|Vq|VM|VP|VR|VV|V0|V1|V2|V3|V4|V5|V6 => k_is
   case V7|V8|V9|Ua|Uh|Uj|Uk|Ul|Um|Un|Uo|Up|Uq|Ur|Us|Ut|Uu|Uv|Uy|UG|UJ|UL|UT|UV|UW|U0|U3|U4|U5|U6|U7|U8|U9|Ja|Jb|Ji|Jj|Jl|Jm|Jo => k_is
   case Jp|Jq|Jr|Js|Jz|JB|JF|JG|JH|JK|JL|JM|JN|JP|JQ|JR|JS|JT|JV|JW|JX|JZ|J0|J1|J3|J4|J5|J6|J7|J8|J9|Qa|Qc|Qe|Qf|Qg|Qh|Qi|Qj|Qk => k_is
   case Ql|Qm|Qn|Qo|Qp|Qu|Qv|Qw => k_is
   case Za|Zb|Zc|Zd|Ze|Zf|Zg|Zh|Zi|Zj|Zk|Zm|Zn|Zo|Zq|Zr|Zt|Zu|Zv|Zw|Zx|Zy|Zz|ZC|ZD|ZF|ZG|ZJ|ZK|ZL|ZM|ZP|ZQ|ZR|ZS|ZV|ZW|ZX|ZZ|Z0 => (refine' TR.Fa.mk ?a ?l ?c ?k; (case a => k_is); (case l => k_is); (case c => k_is); (case k => k_is))
   case Z1|Z2|Z3|Z4|Z5|Z6|Z7|Z8|Z9|Yb|Yc|Yd|Ye|Yg|Yh|Yi|Yj|Yk|Yl|Ym|Yn|Yo|Yp|Yq|Yr|Ys|Yt|Yu|Yv|Yw|Yx|Yy|Yz|YB|YC|YD|YF|YG|YH|YJ => (refine' TR.Fa.mk ?a ?l ?c ?k; (case a => k_is); (case l => k_is); (case c => k_is); (case k => k_is))
   case YK|YL|YM|YQ|YS|YT|YW|YX|YZ|Y0|Y4|Y5|Y6|Y7|Y8|Y9|Xa|Xb|Xc|Xd|Xe|Xf|Xg|Xh|Xi|Xj => (refine' TR.Fa.mk ?a ?l ?c ?k; (case a => k_is); (case l => k_is); (case c => k_is); (case k => k_is))
   case Xo|Xw|XK|X5|Wf|Wo|Wy|WQ|W4|Vd|VN|Ui|J2|Qd => constructor <;> k_is
   case Xp => constructor <;> kit_is
   case XF|XX|Wc|Wl|Wv|WM|W0|Va|Vr|Uz|Jc|Jd|Je|Jf|Jg|Jh|Ju|Qt => kit_is
   case XH|X3|Wd|Wm|Ww|WN|W2|Vb|Vs|Vt|Vu|Vv|Vw|Vx|Vy|Vz|VB|VD|VF|VG|VH|VJ|VK|VL|Ub|Uc|Ud|Ue|Ug|Uw|Ux|JC|JD|Qq|Qs => (refine' TR.Fb.mk ?a ?i ?l ?c ?k; (case a => k_is); (case i => k_is); (case l => k_is); (case c => k_is); (case k => k_is))
   case Jk => simp
   case Jt|Qx => rfl
   case Jv|Jw|Jx|Jy => k_exc
