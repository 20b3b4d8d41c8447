import PyProof.Rows.All
import Wide.All
import OpenK.KLine
import OpenK.KOwn
import KE.RegKIsAll
import KE.KItem
import KE.LcSums
import KE.KPairTest
import Wide.FinOn
import Lean
import PyProof.EqAt
import PyProof.EqKinds
import PyProof.TupleCall
import PyProof.Rows.Catch
import PyProof.Rows.TupIter
import PyProof.TupleIter
import PyProof.Seq
import PyProof.ExcInit
import PyProof.ExcClass2
import KE.KIntText
import PyProof.StrOps2
import PyProof.ConsumeWalk
import PyProof.Rows.RuleM_int
import PyProof.ZipIter
import PyProof.EnumMake
import PyProof.Rows.TupAssign
import PyProof.Rows.Range3
import PyProof.DictWalks
import PyProof.DictUpdate
import PyProof.P3In
import PySem.Challenge.RW_tenreckon_k02_written_and_read
set_option Elab.async false
set_option linter.all false
set_option maxRecDepth 100000
namespace L2
open PySem PySem.Spec PyProof.Rows
noncomputable abbrev Key:=Sum Int Str
noncomputable def B8d:Key ->Value ->Bool
 | .inl k,v=>Value.isInt k v
 | .inr x,v=>Value.isStrOf x v
noncomputable def C3c (w:World):Key ->Int
 | .inl k=>hashInt k
 | .inr x=>hashStr w x
theorem D8:∀{k:Key} {v:Value},B8d k v=true ->(∃i t,k=Sum.inl i/\v=Value.int i t)\/(∃x t,k=Sum.inr x/\v=Value.str x t)
 | .inl i,v,h=>by
   obtain⟨t,e⟩:=Value.isInt_shape (k:=i) (v:=v) h
   exact .inl ⟨i,t,rfl,e⟩
 | .inr x,v,h=>by
   obtain⟨t,e⟩:=Value.isStrOf_shape (x:=x) (v:=v) h
   exact .inr ⟨x,t,rfl,e⟩
theorem B9j(a b:Int):decide ((Sum.inl a:Key)=Sum.inl b)=(a==b):=by
 by_cases e:a=b
 . subst e;simp
 . have h:¬(Sum.inl a:Key)=Sum.inl b:=fun q=>e (Sum.inl.inj q)
   rw[decide_eq_false h]
   exact(beq_eq_false_iff_ne.mpr e).symm
theorem B9x(a b:Str):decide ((Sum.inr a:Key)=Sum.inr b)=decide (a=b):=by
 by_cases e:a=b
 . subst e;simp
 . have h:¬(Sum.inr a:Key)=Sum.inr b:=fun q=>e (Sum.inr.inj q)
   rw[decide_eq_false h,decide_eq_false e]
theorem B9r(a:Int)(b:Str):decide ((Sum.inl a:Key)=Sum.inr b)=false:=decide_eq_false (fun q=>nomatch q)
theorem B9m(a:Str)(b:Int):decide ((Sum.inr a:Key)=Sum.inl b)=false:=decide_eq_false (fun q=>nomatch q)
noncomputable def A9p (prog:Program) (w:World):PySem.KeyKind prog w Key where
 is:=B8d
 hash:=C3c w
 inj :=fun v a b ha hb=>by
   rcases D8 ha with⟨i,t,rfl,rfl⟩|⟨x,t,rfl,rfl⟩
   . rcases D8 hb with⟨j,u,rfl,e⟩|⟨y,u,rfl,e⟩
     . injection e with e1 _;rw[e1]
     . exact nomatch e
   . rcases D8 hb with⟨j,u,rfl,e⟩|⟨y,u,rfl,e⟩
     . exact nomatch e
     . injection e with e1 _;rw[e1]
 byValue:=fun k v h=>by
   rcases D8 h with⟨i,t,rfl,rfl⟩|⟨x,t,rfl,rfl⟩<;>rfl
 pyHash:=fun hv h=>by
   rcases D8 hv with⟨i,t,rfl,rfl⟩|⟨x,t,rfl,rfl⟩
   . exact wpAny_pyHash_int h
   . exact wpAny_pyHash_str h
 eqBool:=fun hu hv h=>by
   rcases D8 hu with⟨i,t,rfl,rfl⟩|⟨x,t,rfl,rfl⟩
   . rcases D8 hv with⟨j,u,rfl,rfl⟩|⟨y,u,rfl,rfl⟩
     . rw[B9j] at h;exact wpAny_eqBool_int h
     . rw[B9r] at h;exact SeqAt.EqAt.int_str i t y u _ _ _ _ h
   . rcases D8 hv with⟨j,u,rfl,rfl⟩|⟨y,u,rfl,rfl⟩
     . rw[B9m] at h;exact SeqAt.EqAt.str_int x t j u _ _ _ _ h
     . rw[B9x] at h;exact wpAny_eqBool_str h
 «strs» := fun k x t v h => by
   rcases D8 h with⟨i,u,rfl,e⟩|⟨y,u,rfl,e⟩
   . exact nomatch e
   . injection e with e1 _
     subst e1
     cases v<;>rfl
inductive V where
 |non|bl (b:Bool)|int (i:Int)|str (x:Str)|byt (b:Array UInt8)|flt (b:UInt64)|ref (a:Addr)|ty (n:String)
 deriving DecidableEq
noncomputable def RelV:V ->Value ->Prop
 | .non,u=>u=Value.none
 | .bl b,u=>u=Value.bool b
 | .int i,u=>∃t,u=Value.int i t
 | .str x,u=>∃t,u=Value.str x t
 | .byt b,u=>∃t,u=Value.bytes b t
 | .flt b,u=>∃t,u=Value.float b t
 | .ref a,u=>u=Value.ref a
 | .ty n,u=>u=Value.type n
noncomputable abbrev Vals:List V ->List Value ->Prop:=Paired RelV
theorem Vals.length{xs:List V}{us:List Value}(r:Vals xs us):xs.length=us.length:=Paired.length r
theorem Vals.get:∀{xs:List V} {us:List Value} {i:Nat} {x:V},Vals xs us ->xs[i]?=some x ->∃u,us[i]?=some u/\RelV x u
 |_,_,_,_,.nil,e=>by simp at e
 |_,_,0,_,.cons r _,e=>by simp at e;subst e;exact⟨_,rfl,r⟩
 | _,_,i+1,x,.cons _ t,e=>by
   obtain⟨u,h1,h2⟩:=Vals.get (i:=i) (x:=x) t (by simpa using e)
   exact⟨u,by simpa using h1,h2⟩
theorem Vals.append:∀{xs ys:List V} {us ws:List Value},Vals xs us ->Vals ys ws ->Vals (xs++ys) (us++ws)
 |_,_,_,_,.nil,s=>s
 |_,_,_,_,.cons r t,s=> .cons r (Vals.append t s)
theorem Vals.take:∀{xs:List V} {us:List Value} (n:Nat),Vals xs us ->Vals (xs.take n) (us.take n)
 |_,_,0,_=> .nil
 |_,_,_+1,.nil=> .nil
 |_,_,n+1,.cons r t=> .cons r (Vals.take n t)
theorem Vals.drop:∀{xs:List V} {us:List Value} (n:Nat),Vals xs us ->Vals (xs.drop n) (us.drop n)
 |_,_,0,r=>r
 |_,_,_+1,.nil=> .nil
 |_,_,n+1,.cons _ t=>Vals.drop n t
noncomputable def RelO:Option V ->Option Value ->Prop
 |some v,some u=>RelV v u
 |none,none=>True
 |_,_=>False
noncomputable def KV {κ:Type}:List (κ×V) ->List (κ×Value) ->Prop:=Paired fun(p:κ×V) (q:κ×Value)=>p.1=q.1/\RelV p.2 q.2
noncomputable def kV:Key ->V
 | .inl i=> .int i
 | .inr x=> .str x
inductive HO where
 |lst (xs:List V)
 |tup (xs:List V)
 |dK (kvs:List (Key×V))|dT (kvs:List (List Key×V))
 |set (S:Int ->Bool) (n:Nat)
 |ins (C dx:Addr) (fs:List (Str×V))
 |own (x:Addr)
 |xd (fs:List (Str×V))
 |met (f x:Addr)
 |rng (lo hi:Int)
 |frz (o:Obj) (u:HO)
 |tbl (ps:Array Value)
 |ext (φ:Heap ->Prop)
noncomputable abbrev Hp:=Addr ->Option HO
noncomputable def upd (H:Hp) (a:Addr) (o:HO):Hp:=fun b=>if b=a then some o else H b
theorem A9{H:Hp}{a:Addr}{o:HO}:upd H a o a=some o:=by unfold upd;rw[if_pos rfl]
theorem C8{H:Hp}{a b:Addr}{o:HO}(h:b≠a):upd H a o b=H b:=by unfold upd;rw[if_neg h]
theorem B7u{H:Hp}{a:Addr}{o u:HO}:upd (upd H a o) a u=upd H a u:=by
 funext b;unfold upd;split<;>rfl
theorem D9{H:Hp}{a b:Addr}{o:HO}(h:H a=some o)(h':H b=none):a≠b:=by
 intro e;subst e;rw[h] at h';cases h'
section
variable(P:Program)(w:World)
noncomputable def ObjOk (H:Hp) (h:Heap) (a:Addr):HO ->Prop
 | .lst xs=>xs.length<=sizeLine/\∃(its:List Value) (n:Nat),Vals xs its/\h.get? a=some {cls:= .type "list",data:= .seq its.toArray n}
 | .tup xs=>xs.length<=sizeLine/\∃its:List Value,Vals xs its/\IsTup h a its.toArray
 | .dK kvs=>kvs.length<=sizeLine/\(a==sysModules)=false/\∃vs,KV kvs vs/\h.DictOf (A9p P w) a vs
 | .dT kvs=>kvs.length<=sizeLine/\(a==sysModules)=false/\∃xs:List (List Key×Addr×Value),
     Paired (fun(p:List Key×V) (q:List Key×Addr×Value)=>p.1=q.1/\H q.2.1=some (.tup (p.1.map kV))/\RelV p.2 q.2.2) kvs xs/\
     ∃o es ep,h.get? a=some o/\o.ExactDict/\o.data= .dict es ep/\es.toList=xs.map (entryOfKey (tupleKind (A9p P w)))/\(xs.map (·.1)).Nodup
 | .set S n=>h.SetOf (intKind P w) a S n
 | .ins C dx fs=>H dx=some (.own a)/\fs.length<=1000/\dx≠a/\h.get? a=some (PySem.W.instObj C dx)/\
     ∃mA,h.Ns1 dx mA/\(∀f,RelO (fs.lookup f) (mA f))/\PySem.Within mA (fs.map (·.1))
 | .own _=>∃o,h.get? a=some o
 | .xd fs=>∃mA,h.Ns1 a mA/\∀f,RelO (fs.lookup f) (mA f)
 | .rng lo hi=>∃t u v,h.get? a=some {cls:= .type "range",data:= .fields #[.int lo t,.int hi u,.int 1 v]}
 | .frz o u=>h.get? a=some o/\ObjOk H h a u
 | .tbl ps=>h.get? a=some {cls:= .none,data:= .fields ps}
 | .met f x=>h.get? a=some (PySem.W.methodObj (.ref f) (.ref x))
 | .ext φ=>φ h/\(∃o,h.get? a=some o)/\∀h1 h2:Heap,φ h1 ->(∀o,h1.get? a=some o ->h2.get? a=some o) ->φ h2
noncomputable def HOk (H:Hp) (h:Heap):Prop:=∀a o,H a=some o ->ObjOk P w H h a o
end
section
variable{P:Program}{w:World}{H H':Hp}{h h':Heap}{a:Addr}{o:HO}
theorem ObjOk.lt(x:ObjOk P w H h a o):a<h.objs.size:=by
 cases o with
 |lst xs=>obtain⟨_,_,_,_,e⟩:=x;exact Heap.lt_size e
 |tup xs=>obtain⟨_,_,_,p⟩:=x;exact p.lt
 |dK kvs=>obtain⟨_,_,_,_,o,_,_,e,_⟩:=x;exact Heap.lt_size e
 |dT kvs=>obtain⟨_,_,_,_,o,_,_,e,_⟩:=x;exact Heap.lt_size e
 |set S n=>obtain⟨o,_,_,_,e,_⟩:=x;exact Heap.lt_size e
 |ins C dx fs=>obtain⟨_,_,_,e,_⟩:=x;exact Heap.lt_size e
 |own y=>obtain⟨_,e⟩:=x;exact Heap.lt_size e
 |xd fs=>obtain⟨_,⟨_,_,_,e,_⟩,_⟩:=x;exact Heap.lt_size e
 |rng lo hi=>obtain⟨_,_,_,e⟩:=x;exact Heap.lt_size e
 |frz ob u=>obtain⟨e,_⟩:=x;exact Heap.lt_size e
 |tbl ps=>exact Heap.lt_size (show h.get? a=some _ from x)
 |met f y=>exact Heap.lt_size (show h.get? a=some _ from x)
 |ext φ=>obtain⟨_,⟨_,e⟩,_⟩:=x;exact Heap.lt_size e
theorem Paired.mapP{α β:Type}{F G:α ->β ->Prop}:∀{l₁:List α} {l₂:List β},Paired F l₁ l₂ ->(∀a b,F a b ->G a b) ->Paired G l₁ l₂
 |_,_,.nil,_=> .nil
 |_,_,.cons r t,f=> .cons (f _ _ r) (Paired.mapP t f)
theorem ObjOk.stay(x:ObjOk P w H h a o)(k:∀b u,(b=a\/H b=some (.own a)) ->h.get? b=some u ->h'.get? b=some u)
   (ho:∀b,H b=some (.own a) ->H' b=some (.own a)) (ht:∀b xs,H b=some (.tup xs) ->H' b=some (.tup xs)):ObjOk P w H' h' a o:=by
 induction o with
 |lst xs=>obtain⟨z,its,n,r,e⟩:=x;exact⟨z,its,n,r,k _ _ (.inl rfl) e⟩
 |tup xs=>obtain⟨z,its,r,ob,e,c⟩:=x;exact⟨z,its,r,ob,k _ _ (.inl rfl) e,c⟩
 |dK kvs=>obtain⟨z,y,vs,r,ob,es,ep,e,c⟩:=x;exact⟨z,y,vs,r,ob,es,ep,k _ _ (.inl rfl) e,c⟩
 | dT kvs=>
   obtain⟨z,y,xs,r,ob,es,ep,e,c⟩:=x
   exact⟨z,y,xs,Paired.mapP r fun p q z=>⟨z.1,ht _ _ z.2.1,z.2.2⟩,ob,es,ep,k _ _ (.inl rfl) e,c⟩
 |set S n=>obtain⟨ob,es,ep,t,e,c⟩:=x;exact⟨ob,es,ep,t,k _ _ (.inl rfl) e,c⟩
 | ins C dx fs=>
   obtain⟨d,z,ne,e,mA,⟨od,es,ep,e2,c⟩,r⟩:=x
   exact⟨ho _ d,z,ne,k _ _ (.inl rfl) e,mA,⟨od,es,ep,k _ _ (.inr d) e2,c⟩,r⟩
 |own y=>obtain⟨ob,e⟩:=x;exact⟨ob,k _ _ (.inl rfl) e⟩
 |xd fs=>obtain⟨mA,⟨od,es,ep,e,c⟩,r⟩:=x;exact⟨mA,⟨od,es,ep,k _ _ (.inl rfl) e,c⟩,r⟩
 |rng lo hi=>obtain⟨t,u,v,e⟩:=x;exact⟨t,u,v,k _ _ (.inl rfl) e⟩
 |frz ob u ih=>obtain⟨e,q⟩:=x;exact⟨k _ _ (.inl rfl) e,ih q⟩
 | tbl ps=>
   have e:h.get? a=some {cls:= .none,data:= .fields ps}:=x
   show h'.get? a=some {cls:= .none,data:= .fields ps}
   exact k a _ (.inl rfl) e
 | met f y=>
   have e:h.get? a=some (PySem.W.methodObj (.ref f) (.ref y)):=x
   show h'.get? a=some (PySem.W.methodObj (.ref f) (.ref y))
   exact k a _ (.inl rfl) e
 |ext φ=>obtain⟨p,⟨o,e⟩,st⟩:=x;exact⟨st _ _ p fun o q=>k _ _ (.inl rfl) q,⟨o,k _ _ (.inl rfl) e⟩,st⟩
theorem HOk.lt(x:HOk P w H h)(e:H a=some o):a<h.objs.size:=(x a o e).lt
theorem HOk.fresh(x:HOk P w H h)(e:h.objs.size<=a):H a=none:=by
 cases q:H a with
 |none=>rfl
 |some u=>exact absurd (Nat.lt_of_lt_of_le (x.lt q) e) (Nat.lt_irrefl _)
theorem HOk.kept(x:HOk P w H h)(k:∀b u,h.get? b=some u ->h'.get? b=some u):HOk P w H h':=fun a o e=>
 (x a o e).stay (fun b u _ q=>k b u q) (fun _ q=>q) fun _ _ q=>q
theorem HOk.laid(x:HOk P w H h)(k:∀b u,h.get? b=some u ->h'.get? b=some u)(hp:h.objs.size<=a)(new:ObjOk P w (upd H a o) h' a o):HOk P w (upd H a o) h':=fun b u e=>by
 have hn:=x.fresh hp
 by_cases hb:b=a
 . subst hb;rw[A9] at e;cases e;exact new
 . rw[C8 hb] at e
   exact(x b u e).stay (fun c v _ q=>k c v q) (fun c q=>by rw[C8 (D9 q hn)];exact q) fun c xs q=>by rw[C8 (D9 q hn)];exact q
end
noncomputable def Rd (H:Hp) (a:Addr) (u:HO):Prop:=H a=some u\/∃o,H a=some (.frz o u)
theorem Rd.ok{P:Program}{w:World}{H:Hp}{h:Heap}{a:Addr}{u:HO}(r:Rd H a u)(x:HOk P w H h):ObjOk P w H h a u:=by
 rcases r with r|⟨o,r⟩
 . exact x a u r
 . obtain⟨_,q⟩:=x a _ r
   exact q
noncomputable def Mut:Option HO ->Prop
 |some (.lst _)=>True
 |some (.dK _)=>True
 |some (.dT _)=>True
 |some (.set _ _)=>True
 |some (.ins _ _ _)=>True
 |some (.ext _)=>True
 |_=>False
section
variable{P:Program}{w:World}{H:Hp}{h h':Heap}{x e:Addr}{o':HO}
theorem HOk.write(ok:HOk P w H h)(mu:Mut (H x))(he:e=x\/H e=some (.own x))(k:∀b u,b≠e ->h.get? b=some u ->h'.get? b=some u)(heo:∃u,h'.get? e=some u)
   (new:ObjOk P w (upd H x o') h' x o'):HOk P w (upd H x o') h':=fun b u q=>by
 have nown:∀c y,H c=some (.own y) ->c≠x:=fun c y r z=>by subst z;rw[r] at mu;exact mu
 have ntup:∀c xs,H c=some (.tup xs) ->c≠x:=fun c xs r z=>by subst z;rw[r] at mu;exact mu
 by_cases hb:b=x
 . subst hb;rw[A9] at q;cases q;exact new
 . rw[C8 hb] at q
   by_cases hbe:b=e
   . have q':H b=some (.own x):=by
       rcases he with z|z
       . exact absurd (hbe.trans z) hb
       . rw[hbe];exact z
     rw[q] at q';cases q'
     obtain⟨v,hv⟩:=heo
     exact⟨v,by rw[hbe];exact hv⟩
   . refine(ok b u q).stay (fun c v hc r=>k c v ?_ r) (fun c r=>by rw[C8 (nown c b r)];exact r) fun c xs r=>by rw[C8 (ntup c xs r)];exact r
     rcases hc with rfl|hc
     . exact hbe
     . rintro rfl
       rcases he with z|z
       . exact nown c b hc z
       . rw[hc] at z;cases z;exact hb rfl
end
structure Un(fs ex:List Addr)(H H':Hp)(h h':Heap):Prop where
 keep:∀b o,h.get? b=some o ->H b=none ->b ∉ fs ->b ∉ ex ->h'.get? b=some o
 slot:∀b o,h.get? b=some o ->H b=none ->b∈fs ->b ∉ ex ->∃sl,h'.get? b=some {o with slots:=sl}
 free:∀b o,h.get? b=some o ->H b=none ->b ∉ ex ->H' b=none
 there:∀b o,h.get? b=some o ->b ∉ ex ->∃o',h'.get? b=some o'
 tups:∀b xs,H b=some (.tup xs) ->H' b=some (.tup xs)
 frzs:∀b o u,H b=some (.frz o u) ->H' b=some (.frz o u)
 tbls:∀b ps,H b=some (.tbl ps) ->∃more,H' b=some (.tbl (ps++more))
section
variable{fs fs' ex ex':List Addr}{H H1 H2:Hp}{h h1 h2 h':Heap}{a x e:Addr}{o:HO}
theorem Un.any(u:Un fs ex H H1 h h1){b:Addr}{ob:Obj}(q:h.get? b=some ob)(n:H b=none)(hx:b ∉ ex):∃sl,h1.get? b=some {ob with slots:=sl}:=by
 by_cases hb:b∈fs
 . exact u.slot b ob q n hb hx
 . exact⟨ob.slots,u.keep b ob q n hb hx⟩
theorem Un.kept(k:∀b u,h.get? b=some u ->h'.get? b=some u):Un fs ex H H h h':=
 ⟨fun b ob q _ _ _=>k b ob q,fun b ob q _ _ _=>⟨ob.slots,k b ob q⟩,fun _ _ _ n _=>n,fun b ob q _=>⟨ob,k b ob q⟩,fun _ _ q=>q,fun _ _ _ q=>q,fun _ ps q=>⟨#[],by rw[q];simp⟩⟩
theorem Un.refl:Un fs ex H H h h:=Un.kept fun _ _ q=>q
theorem Un.laid(k:∀b u,h.get? b=some u ->h'.get? b=some u)(hp:h.objs.size<=a)(hn:H a=none):Un fs ex H (upd H a o) h h' where
 keep:=fun b u q _ _ _=>k b u q
 slot:=fun b u q _ _ _=>⟨u.slots,k b u q⟩
 free:=fun b u q n _=>by rw[C8 (Nat.ne_of_lt (Nat.lt_of_lt_of_le (Heap.lt_size q) hp))];exact n
 there:=fun b u q _=>⟨u,k b u q⟩
 tups:=fun b xs q=>by rw[C8 (D9 q hn)];exact q
 frzs:=fun b u xs q=>by rw[C8 (D9 q hn)];exact q
 tbls:=fun b ps q=>⟨#[],by rw[C8 (D9 q hn),q];simp⟩
theorem Un.write(mu:Mut (H x))(he:e=x\/H e=some (.own x))(k:∀b u,b≠e ->h.get? b=some u ->h'.get? b=some u)(heo:∃u,h'.get? e=some u):Un fs ex H (upd H x o) h h':=by
 have hx:∀b,H b=none ->b≠x:=fun b n z=>by subst z;rw[n] at mu;exact mu
 have hb:∀b,H b=none ->b≠e:=fun b n z=>by
   subst z
   rcases he with r|r
   . exact hx b n r
   . rw[n] at r;cases r
 have hm:∀b u,H b=some u ->¬Mut (some u) ->b≠x:=fun b u q nm z=>by subst z;rw[q] at mu;exact nm mu
 refine⟨fun b u q n _ _=>k b u (hb b n) q,fun b u q n _ _=>⟨u.slots,k b u (hb b n) q⟩,fun b u q n _=>by rw[C8 (hx b n)];exact n,fun b u q _=>?_,
   fun b xs q=>by rw[C8 (hm b _ q fun z=>z)];exact q,fun b u xs q=>by rw[C8 (hm b _ q fun z=>z)];exact q,fun b ps q=>⟨#[],by rw[C8 (hm b _ q fun z=>z),q];simp⟩⟩
 by_cases hbe:b=e
 . subst hbe;exact heo
 . exact⟨u,k b u hbe q⟩
end
noncomputable def trk (h:Heap) (H:Hp):List Addr:=(List.range h.objs.size).filter fun a=>(H a).isSome
noncomputable def A5k (h:Heap) (H:Hp):Heap:=PySem.W.hideAll h (trk h H)
theorem B1s(h:Heap)(H:Hp):(A5k h H).objs.size=h.objs.size:=PySem.W.hideAll_size _ _
theorem B4v{h:Heap}{H:Hp}{b:Addr}{o:Obj}(e:h.get? b=some o)(n:H b=none):(A5k h H).get? b=some o:=
 PySem.W.hideAll_get _ e fun hm=>by
   have q:(H b).isSome=true:=(List.mem_filter.mp hm).2
   rw[n] at q;simp at q
theorem B5w{h:Heap}{H:Hp}{b:Addr}{o:Obj}(e:(A5k h H).get? b=some o):h.get? b=some o/\H b=none:=by
 have e':h.get? b=some o:=PySem.W.of_hideAll (trk h H) e
 refine⟨e',?_⟩
 cases q:H b with
 |none=>rfl
 | some x=>
   have hm:b∈trk h H:=List.mem_filter.mpr ⟨List.mem_range.mpr (Heap.lt_size e'),by simp[q]⟩
   have z:(A5k h H).get? b=none:=PySem.W.hideAll_none (trk h H) hm
   rw[z] at e;cases e
structure Mod(K:PySem.W.Frag)(mg:Str ->Option Value)(base:Heap):Prop where
 kin:K.In base
 glob:base.Ns mainGlobals mg
 blt:∃mb,base.Ns builtinsNs mb/\∀x:Str,x≠"__name__" ->mb x=bootBuiltins x
 nolimit:base.NoLimit
structure Cx where
 prog:Program
 w:World
 K:PySem.W.Frag
 mg:Str ->Option Value
 base:Heap
 A:Around
 N:List Str
 s₀:Shared
 H₀:Hp
 env:Env
 outer:List Env
 stack:List Env
 ex:List Addr
 fn:Str ->Bool
 calm:Bool
 pn:List (Addr×Obj)
 xe:Value ->Shared ->Prop
noncomputable def frs (l:List Env):List Addr:=l.filterMap (·.frame)
noncomputable abbrev Cx.fs (X:Cx):List Addr:=frs X.outer
noncomputable def Vis (sc:Scope) (x:Str):Prop:=sc.names.lookup x=some .local\/sc.names.lookup x=some .cell\/sc.names.lookup x=some .free
noncomputable def Loc (sc:Scope) (x:Str):Prop:=sc.names.lookup x=some .local\/sc.names.lookup x=some .cell
noncomputable def C3d (env:Env) (h:Heap) (m:Str ->Option Value) (x:Str) (u:Value):Prop:=
 (env.kindOf x=some .local/\m x=some u)\/((env.kindOf x=some .cell\/env.kindOf x=some .free)/\∃c,env.cells.lookup x=some c/\h.IsCell c (some u))
structure Cx.Ok(X:Cx):Prop where
 mod:Mod X.K X.mg X.base
 kind:X.env.scope.kind= .function
 glob:X.env.globals=mainGlobals
 blt:X.env.builtins=builtinsNs
 above:X.s₀.heap.objs.size<=X.env.locals
 inj:∀x y c,X.env.cells.lookup x=some c ->X.env.cells.lookup y=some c ->x=y
 has:∀x,(X.env.kindOf x=some .cell\/X.env.kindOf x=some .free) ->∃c,X.env.cells.lookup x=some c
 cab:∀x c,X.fn x=true ->X.env.cells.lookup x=some c ->X.s₀.heap.objs.size<=c
 hd:X.calm=true ->X.A.handled=none
 frames:X.A.frames=some X.stack
 stk:X.stack=X.outer\/(X.stack=X.env::X.outer/\X.env.frame=some X.env.locals)
 exf:∀b∈X.ex,b≠X.env.locals/\∀x c,X.env.cells.lookup x=some c ->c≠b
 bs:∀b o,X.base.get? b=some o ->X.s₀.heap.get? b=some o/\X.H₀ b=none
 bsz:X.base.objs.size<=X.s₀.heap.objs.size
 noex:∀b o,X.base.get? b=some o ->b ∉ X.ex
 exfs:∀b∈X.ex,b ∉ X.fs
 funs:X.s₀.heap.FunFrames X.base X.outer
 frf:∀b∈X.fs,X.H₀ b=none
structure Inv(X:Cx)(pins:List (Addr×Obj))(σ:List (Option V))(H:Hp)(s:Shared):Prop where
 ok:X.Ok
 os:s.os=X.s₀.os
 bare:AllBare s.gens
 base:Un X.fs X.ex X.H₀ H X.s₀.heap s.heap
 loc:∃m,s.heap.Ns X.env.locals m/\∀(i:Nat) (x:Str) (v:V),X.N[i]?=some x ->σ[i]?=some (some v) ->Vis X.env.scope x ->∃u,RelV v u/\C3d X.env s.heap m x u
 cell:∀x c,X.env.cells.lookup x=some c ->∃v,s.heap.IsCell c v
 free:H X.env.locals=none
 freeC:∀x c,X.env.cells.lookup x=some c ->H c=none
 pin:∀p∈X.pn++pins,s.heap.get? p.1=some p.2/\H p.1=none/\p.1≠X.env.locals/\p.1 ∉ X.fs/\∀v,p.2.data≠ .cell v
 hok:HOk X.prog X.w H s.heap
 len:σ.length=X.N.length
section
variable{X:Cx}{pins:List (Addr×Obj)}{σ:List (Option V)}{H H':Hp}{s:Shared}{h':Heap}
theorem Cx.Ok.nofr(ok:X.Ok){b:Addr}{o:Obj}(e:X.base.get? b=some o):b ∉ X.fs:=fun hb=>by
 have:=(ok.funs.mem hb).1
 rw[e] at this;cases this
theorem Inv.bs(I:Inv X pins σ H s):∀b o,X.base.get? b=some o ->s.heap.get? b=some o/\H b=none:=fun b o e=>
 ⟨I.base.keep b o (I.ok.bs b o e).1 (I.ok.bs b o e).2 (I.ok.nofr e) (I.ok.noex b o e),I.base.free b o (I.ok.bs b o e).1 (I.ok.bs b o e).2 (I.ok.noex b o e)⟩
theorem Inv.bk(I:Inv X pins σ H s):∀b o,X.base.get? b=some o ->s.heap.get? b=some o:=fun b o e=>(I.bs b o e).1
theorem Inv.mod(I:Inv X pins σ H s):Mod X.K X.mg X.base:=I.ok.mod
theorem Inv.kIn(I:Inv X pins σ H s):X.K.In s.heap:=I.ok.mod.kin.keeps I.bk
theorem Inv.lt(I:Inv X pins σ H s):X.env.locals<s.heap.objs.size:=let⟨_,hn,_⟩:=I.loc;hn.lt
theorem Inv.sz(I:Inv X pins σ H s):X.s₀.heap.objs.size<=s.heap.objs.size:=Nat.le_trans I.ok.above (Nat.le_of_lt I.lt)
theorem Inv.nofs(I:Inv X pins σ H s){a:Addr}(h:s.heap.objs.size<=a):a ∉ X.fs:=fun hb=>by
 obtain⟨_,o,ho,_⟩:=I.ok.funs.mem hb
 exact absurd (Nat.lt_of_lt_of_le (Heap.lt_size ho) (Nat.le_trans I.sz h)) (Nat.lt_irrefl _)
theorem Inv.cne(I:Inv X pins σ H s):∀x c,X.env.cells.lookup x=some c ->c≠X.env.locals:=fun x c e z=>by
 obtain⟨v,o,ho,hd⟩:=I.cell x c e
 obtain⟨m,⟨o',es,ep,ho',hd',_⟩,_⟩:=I.loc
 rw[z,ho'] at ho;cases ho;rw[hd'] at hd;cases hd
theorem Inv.funs(I:Inv X pins σ H s):s.heap.FunFrames X.base X.outer:=by
 have all:∀(l:List Env),(∀b∈frs l,b∈X.fs) ->X.s₀.heap.FunFrames X.base l ->s.heap.FunFrames X.base l:=by
   intro l
   induction l with
   |nil=>intro _ _;trivial
   | cons env r ih=>
     intro hs hl
     obtain⟨hk,⟨L,o,hf,hn,ho,hd⟩,hr⟩:=hl
     have hL:L∈X.fs:=hs L (by unfold frs;rw[List.filterMap_cons,hf];exact List.mem_cons_self)
     obtain⟨sl,e⟩:=I.base.slot L o ho (I.ok.frf L hL) hL fun z=>I.ok.exfs L z hL
     exact⟨hk,⟨L,_,hf,hn,e,hd⟩,ih (fun b hb=>hs b (by unfold frs;rw[List.filterMap_cons,hf];exact List.mem_cons_of_mem _ hb)) hr⟩
 exact all X.outer (fun _ hb=>hb) I.ok.funs
theorem Inv.stack(I:Inv X pins σ H s):s.heap.FunFrames X.base X.stack:=by
 rcases I.ok.stk with e|⟨e,hf⟩
 . rw[e];exact I.funs
 . rw[e]
   obtain⟨m,hn,_⟩:=I.loc
   refine .cons (by rw[I.ok.kind];decide) hf hn ?_ I.funs
   exact Heap.get?_none_of_le (Nat.le_trans I.ok.bsz I.ok.above)
theorem Inv.stkSub(I:Inv X pins σ H s):∀b∈frs X.stack,b∈X.env.locals::X.fs:=fun b hb=>by
 rcases I.ok.stk with e|⟨e,hf⟩
 . rw[e] at hb;exact List.mem_cons_of_mem _ hb
 . rw[e] at hb
   unfold frs at hb
   rw[List.filterMap_cons,hf] at hb
   exact hb
theorem Inv.stkFree(I:Inv X pins σ H s):∀b∈frs X.stack,H b=none:=fun b hb=>by
 rcases List.mem_cons.mp (I.stkSub b hb) with e|hb
 . rw[e];exact I.free
 . obtain⟨_,o,ho,_⟩:=I.ok.funs.mem hb
   exact I.base.free b o ho (I.ok.frf b hb) fun z=>I.ok.exfs b z hb
theorem Inv.step{g':Array GenState}{t':Nat}{d':Drawn}{ch:List Addr}(I:Inv X pins σ H s)
   (hch:∀b∈ch,(b∈X.ex\/X.s₀.heap.objs.size<=b)/\b≠X.env.locals/\(∀x c,X.env.cells.lookup x=some c ->c≠b)/\∀p∈X.pn++pins,p.1≠b)
   (keep:∀b o,b≠X.env.locals ->b ∉ X.fs ->b ∉ ch ->s.heap.get? b=some o ->H b=none ->h'.get? b=some o)
   (slot:∀b o,b≠X.env.locals ->b∈X.fs ->b ∉ ch ->s.heap.get? b=some o ->H b=none ->∃sl,h'.get? b=some {o with slots:=sl}) (free:∀b o,b ∉ ch ->s.heap.get? b=some o ->H b=none ->H' b=none)
   (there:∀b o,b ∉ ch ->s.heap.get? b=some o ->∃o',h'.get? b=some o')
   (tups:∀b xs,H b=some (.tup xs) ->H' b=some (.tup xs)) (frzs:∀b o u,H b=some (.frz o u) ->H' b=some (.frz o u)) (tbls:∀b ps,H b=some (.tbl ps) ->∃more,H' b=some (.tbl (ps++more)))
   (ns:∀m,s.heap.Ns X.env.locals m ->h'.Ns X.env.locals m) (hok:HOk X.prog X.w H' h') (hg:AllBare g'):
   Inv X pins σ H' {s with heap:=h',gens:=g',drawn:=d',toks:=t'}:=by
 have neL:∀b o,X.s₀.heap.get? b=some o ->b≠X.env.locals:=fun b o e=>Nat.ne_of_lt (Nat.lt_of_lt_of_le (Heap.lt_size e) I.ok.above)
 have neC:∀b o,X.s₀.heap.get? b=some o ->b ∉ X.ex ->b ∉ ch:=fun b o e hx hb=>by
   rcases(hch b hb).1 with z|z
   . exact hx z
   . exact absurd (Nat.lt_of_lt_of_le (Heap.lt_size e) z) (Nat.lt_irrefl _)
 have cellK:∀x c,X.env.cells.lookup x=some c ->∀v,s.heap.IsCell c v ->h'.IsCell c v:=fun x c e v ⟨o,ho,hd⟩=>by
   have nch:c ∉ ch:=fun z=>(hch c z).2.2.1 x c e rfl
   by_cases hc:c∈X.fs
   . obtain⟨sl,q⟩:=slot c o (I.cne x c e) hc nch ho (I.freeC x c e)
     exact⟨_,q,hd⟩
   . exact⟨o,keep c o (I.cne x c e) hc nch ho (I.freeC x c e),hd⟩
 refine⟨I.ok,I.os,hg,⟨fun b o e n hb hx=>?_,fun b o e n hb hx=>?_,fun b o e n hx=>?_,fun b o e hx=>?_,fun b xs e=>tups b xs (I.base.tups b xs e),fun b o xs e=>frzs b o xs (I.base.frzs b o xs e),fun b ps e=>?_⟩,?_,fun x c e=>?_,?_,fun x c e=>?_,fun p hp=>?_,hok,I.len⟩
 . exact keep b o (neL b o e) hb (neC b o e hx) (I.base.keep b o e n hb hx) (I.base.free b o e n hx)
 . obtain⟨sl,e1⟩:=I.base.slot b o e n hb hx
   obtain⟨sl',e2⟩:=slot b _ (neL b o e) hb (neC b o e hx) e1 (I.base.free b o e n hx)
   exact⟨sl',e2⟩
 . obtain⟨o',e1⟩:=I.base.there b o e hx
   exact free b o' (neC b o e hx) e1 (I.base.free b o e n hx)
 . obtain⟨o',e1⟩:=I.base.there b o e hx
   exact there b o' (neC b o e hx) e1
 . obtain⟨m1,e1⟩:=I.base.tbls b ps e
   obtain⟨m2,e2⟩:=tbls b _ e1
   exact⟨m1++m2,by rw[e2,Array.append_assoc]⟩
 . obtain⟨m,hn,hl⟩:=I.loc
   refine⟨m,ns m hn,fun i x v e1 e2 e3=>?_⟩
   obtain⟨u,r,l⟩:=hl i x v e1 e2 e3
   refine⟨u,r,?_⟩
   rcases l with l|⟨k,c,e,z⟩
   . exact .inl l
   . exact .inr ⟨k,c,e,cellK x c e _ z⟩
 . obtain⟨v,z⟩:=I.cell x c e
   exact⟨v,cellK x c e v z⟩
 . obtain⟨m,⟨o,_,_,ho,_⟩,_⟩:=I.loc
   exact free _ o (fun z=>(hch _ z).2.1 rfl) ho I.free
 . obtain⟨v,o,ho,hd⟩:=I.cell x c e
   exact free c o (fun z=>(hch c z).2.2.1 x c e rfl) ho (I.freeC x c e)
 . obtain⟨e,n,ne,nf,d⟩:=I.pin p hp
   have nch:p.1 ∉ ch:=fun z=>(hch p.1 z).2.2.2 p hp rfl
   exact⟨keep p.1 p.2 ne nf nch e n,free p.1 p.2 nch e n,ne,nf,d⟩
theorem Inv.un{t':Nat}(I:Inv X pins σ H s)(u:Un X.fs [] H H' s.heap h')(hok:HOk X.prog X.w H' h'):Inv X pins σ H' {s with heap:=h',toks:=t'}:=by
 obtain⟨m,⟨o,es,ep,ho,r⟩,_⟩:=id I.loc
 obtain⟨sl,hL⟩:=u.any ho I.free (by simp)
 exact I.step (g':=s.gens) (d':=s.drawn) (ch:=[]) (fun _ z=>nomatch z) (fun b o _ hb _ e n=>u.keep b o e n hb (by simp)) (fun b o _ hb _ e n=>u.slot b o e n hb (by simp)) (fun b o _ e n=>u.free b o e n (by simp)) (fun b o _ e=>u.there b o e (by simp)) u.tups u.frzs u.tbls (fun m' hm=>by
   obtain⟨o',es',ep',ho',r'⟩:=hm
   rw[ho] at ho';cases ho'
   exact⟨_,es',ep',hL,r'⟩) hok I.bare
theorem Inv.call{g':Array GenState}{t':Nat}{d':Drawn}{ch:List Addr}(I:Inv X pins σ H s)(u:Un (frs X.stack) ch H H' s.heap h')(hok:HOk X.prog X.w H' h')(hg:AllBare g')
   (hch:∀b∈ch,(b∈X.ex\/X.s₀.heap.objs.size<=b)/\b≠X.env.locals/\(∀x c,X.env.cells.lookup x=some c ->c≠b)/\∀p∈X.pn++pins,p.1≠b):
   Inv X pins σ H' {s with heap:=h',gens:=g',drawn:=d',toks:=t'}:=by
 obtain⟨m,⟨o,es,ep,ho,r⟩,_⟩:=id I.loc
 obtain⟨sl,hL⟩:=u.any ho I.free fun z=>(hch _ z).2.1 rfl
 exact I.step (ch:=ch) hch (fun b o hL hb hc e n=>u.keep b o e n (fun z=>(List.mem_cons.mp (I.stkSub b z)).elim hL hb) hc) (fun b o _ _ hc e n=>u.any e n hc) (fun b o hc e n=>u.free b o e n hc) (fun b o hc e=>u.there b o e hc) u.tups u.frzs u.tbls (fun m' hm=>by
   obtain⟨o',es',ep',ho',r'⟩:=hm
   rw[ho] at ho';cases ho'
   exact⟨_,es',ep',hL,r'⟩) hok hg
theorem Inv.turned{t':Nat}{it:Addr}(I:Inv X pins σ H s)(k:∀b o,b≠it ->s.heap.get? b=some o ->h'.get? b=some o)(hn:H it=none)(hL:it≠X.env.locals)
   (h1:it∈X.ex\/X.s₀.heap.objs.size<=it) (h2:∀x c,X.env.cells.lookup x=some c ->c≠it) (h3:∀p∈X.pn++pins,p.1≠it):Inv X pins σ H {s with heap:=h',toks:=t'}:=by
 have nit:∀b u,H b=some u ->b≠it:=fun b u e z=>by rw[z,hn] at e;cases e
 refine I.step (g':=s.gens) (d':=s.drawn) (ch:=[it]) (fun b hb=>?_) (fun b o _ _ hc e _=>k b o (fun z=>hc (by simp[z])) e) (fun b o _ _ hc e _=>⟨o.slots,k b o (fun z=>hc (by simp[z])) e⟩) (fun _ _ _ _ n=>n)
   (fun b o hc e=>⟨o,k b o (fun z=>hc (by simp[z])) e⟩) (fun _ _ e=>e) (fun _ _ _ e=>e) (fun b ps e=>⟨#[],by rw[e];simp⟩) (fun m hm=>?_) (fun b u e=>?_) I.bare
 . have e:b=it:=by simpa using hb
   subst e
   exact⟨h1,hL,h2,h3⟩
 . obtain⟨o,es,ep,ho,r⟩:=hm
   exact⟨o,es,ep,k _ o (Ne.symm hL) ho,r⟩
 . refine(I.hok b u e).stay (fun c v hc q=>k c v ?_ q) (fun _ q=>q) fun _ _ q=>q
   rcases hc with z|z
   . rw[z];exact nit b u e
   . exact nit c _ z
theorem Inv.tok(I:Inv X pins σ H s)(t:Nat):Inv X pins σ H {s with toks:=t}:=I.un (h':=s.heap) (t':=t) Un.refl I.hok
theorem Inv.kept{t':Nat}(I:Inv X pins σ H s)(k:∀b u,s.heap.get? b=some u ->h'.get? b=some u):Inv X pins σ H {s with heap:=h',toks:=t'}:=I.un (Un.kept k) (I.hok.kept k)
theorem Inv.laid{a:Addr}{o:HO}{t':Nat}(I:Inv X pins σ H s)(k:∀b u,s.heap.get? b=some u ->h'.get? b=some u)(hp:s.heap.objs.size<=a)(new:ObjOk X.prog X.w (upd H a o) h' a o):
   Inv X pins σ (upd H a o) {s with heap:=h',toks:=t'}:=I.un (Un.laid k hp (I.hok.fresh hp)) (I.hok.laid k hp new)
theorem Inv.write{x e:Addr}{o:HO}{t':Nat}(I:Inv X pins σ H s)(mu:Mut (H x))(he:e=x\/H e=some (.own x))(k:∀b u,b≠e ->s.heap.get? b=some u ->h'.get? b=some u)(heo:∃u,h'.get? e=some u)
   (new:ObjOk X.prog X.w (upd H x o) h' x o):Inv X pins σ (upd H x o) {s with heap:=h',toks:=t'}:=I.un (Un.write mu he k heo) (I.hok.write mu he k heo new)
theorem Inv.weak{σ':List (Option V)}(I:Inv X pins σ H s)(hl:σ'.length=σ.length)(w:∀(i:Nat) v,σ'[i]?=some (some v) ->σ[i]?=some (some v)):Inv X pins σ' H s:=
 ⟨I.ok,I.os,I.bare,I.base,let⟨m,hn,hl'⟩:=I.loc;⟨m,hn,fun i x v e1 e2 e3=>hl' i x v e1 (w i v e2) e3⟩,I.cell,I.free,I.freeC,I.pin,I.hok,hl.trans I.len⟩
theorem Inv.pins_of{pins':List (Addr×Obj)}(I:Inv X pins σ H s)(h:∀p∈pins',s.heap.get? p.1=some p.2/\H p.1=none/\p.1≠X.env.locals/\p.1 ∉ X.fs/\∀v,p.2.data≠ .cell v):Inv X pins' σ H s:=
 ⟨I.ok,I.os,I.bare,I.base,I.loc,I.cell,I.free,I.freeC,fun p hp=>(List.mem_append.mp hp).elim (fun z=>I.pin p (List.mem_append_left _ z)) (h p),I.hok,I.len⟩
theorem A3h{N:List Str}(hN:N.Nodup){i j:Nat}{x:Str}(a:N[i]?=some x)(b:N[j]?=some x):i=j:=by
 obtain⟨h1,e1⟩:=List.getElem?_eq_some_iff.mp a
 obtain⟨h2,e2⟩:=List.getElem?_eq_some_iff.mp b
 exact(List.getElem_inj hN).mp (e1.trans e2.symm)
theorem A4q{M:Model}{A:Around}{E:Value ->Shared ->Prop}{i:Nat}{x:Str}{v:V}{u:Value}{Q:Unit ->Shared ->Prop}(I:Inv X pins σ H s)(hN:X.N.Nodup)(hi:X.N[i]?=some x)(hx:Loc X.env.scope x)(r:RelV v u)
   (h:∀s',Inv X pins (σ.set i (some v)) H s' ->(∃a,Heap.SameBut a s.heap s'.heap/\(a=X.env.locals\/X.env.cells.lookup x=some a)) ->Q () s') (hf:X.fn x=true\/X.env.scope.names.lookup x=some .local:=by first|exact .inl rfl|exact .inr rfl|assumption):wpAny M A (storeName X.env x u) Q E s:=by
 obtain⟨m,hn,hl⟩:=id I.loc
 have hcls:(X.env.scope.kind== .class||(X.env.scope.kind== .module&&X.env.locals !=X.env.globals))=false:=by rw[I.ok.kind];rfl
 have hiσ:i<σ.length:=by rw[I.len];exact(List.getElem?_eq_some_iff.mp hi).1
 have cne:=I.cne
 have tracked:∀{a:Addr} {h':Heap},(∃o,s.heap.get? a=some o/\H a=none) ->Heap.SameBut a s.heap h' ->HOk X.prog X.w H h':=fun{a h'} ha hs b ob e=>by
   obtain⟨_,_,hfree⟩:=ha
   refine(I.hok b ob e).stay (fun c w' hc q=>(hs.2 c ?_).trans q) (fun _ q=>q) fun _ _ q=>q
   rintro rfl
   rcases hc with rfl|hc
   . rw[hfree] at e;cases e
   . rw[hfree] at hc;cases hc
 rcases hx with hk|hk
 . refine wpAny_storeName_local hk hn (fun h' hn' hs=>?_) hcls
   obtain⟨oL,_,_,hoL,_⟩:=id hn
   refine h _ ⟨I.ok,I.os,I.bare,⟨fun b o e n hb hx=>?_,fun b o e n hb hx=>?_,I.base.free,fun b o e hx=>?_,I.base.tups,I.base.frzs,I.base.tbls⟩,⟨_,hn',fun j y v' e1 e2 e3=>?_⟩,fun y c e=>?_,I.free,I.freeC,fun p hp=>?_,tracked ⟨oL,hoL,I.free⟩ hs,by simpa using I.len⟩ ⟨_,hs,.inl rfl⟩
   . exact(hs.2 b (Nat.ne_of_lt (Nat.lt_of_lt_of_le (Heap.lt_size e) I.ok.above))).trans (I.base.keep b o e n hb hx)
   . obtain⟨sl,e1⟩:=I.base.slot b o e n hb hx
     exact⟨sl,(hs.2 b (Nat.ne_of_lt (Nat.lt_of_lt_of_le (Heap.lt_size e) I.ok.above))).trans e1⟩
   . obtain⟨o',e1⟩:=I.base.there b o e hx
     exact⟨o',(hs.2 b (Nat.ne_of_lt (Nat.lt_of_lt_of_le (Heap.lt_size e) I.ok.above))).trans e1⟩
   . by_cases hj:j=i
     . subst hj
       rw[hi] at e1;cases e1
       rw[List.getElem?_set_self hiσ] at e2
       cases e2
       exact⟨u,r,.inl ⟨hk,by simp⟩⟩
     . rw[List.getElem?_set_ne (Ne.symm hj)] at e2
       obtain⟨u',r',q⟩:=hl j y v' e1 e2 e3
       refine⟨u',r',?_⟩
       rcases q with⟨k,e⟩|⟨k,c,e,z⟩
       . refine .inl ⟨k,?_⟩
         have:y≠x:=fun e=>hj (A3h hN e1 (e▸hi))
         simp[this,e]
       . exact .inr ⟨k,c,e,z.sameBut hs (cne y c e)⟩
   . obtain⟨w',z⟩:=I.cell y c e
     exact⟨w',z.sameBut hs (cne y c e)⟩
   . obtain⟨e,n,ne,nf,d⟩:=I.pin p hp
     exact⟨(hs.2 p.1 ne).trans e,n,ne,nf,d⟩
 . have hfn:X.fn x=true:=by
     rcases hf with z|z
     . exact z
     . rw[z] at hk;cases hk
   obtain⟨c,hc⟩:=I.ok.has x (.inl hk)
   obtain⟨w',z⟩:=I.cell x c hc
   refine wpAny_storeName_cell I.ok.kind hk hc z (fun h' hc' hs=>?_)
   obtain⟨oc,hoc,hocd⟩:=id z
   refine h {s with heap:=h'} ⟨I.ok,I.os,I.bare,⟨fun b o e n hb hx=>?_,fun b o e n hb hx=>?_,I.base.free,fun b o e hx=>?_,I.base.tups,I.base.frzs,I.base.tbls⟩,⟨m,hn.sameBut hs (Ne.symm (cne x c hc)),fun j y v' e1 e2 e3=>?_⟩,fun y c' e=>?_,I.free,I.freeC,fun p hp=>?_,tracked ⟨oc,hoc,I.freeC x c hc⟩ hs,by simpa using I.len⟩ ⟨c,hs,.inr hc⟩
   . exact(hs.2 b (Nat.ne_of_lt (Nat.lt_of_lt_of_le (Heap.lt_size e) (I.ok.cab x c hfn hc)))).trans (I.base.keep b o e n hb hx)
   . obtain⟨sl,e1⟩:=I.base.slot b o e n hb hx
     exact⟨sl,(hs.2 b (Nat.ne_of_lt (Nat.lt_of_lt_of_le (Heap.lt_size e) (I.ok.cab x c hfn hc)))).trans e1⟩
   . obtain⟨o',e1⟩:=I.base.there b o e hx
     exact⟨o',(hs.2 b (Nat.ne_of_lt (Nat.lt_of_lt_of_le (Heap.lt_size e) (I.ok.cab x c hfn hc)))).trans e1⟩
   . by_cases hj:j=i
     . subst hj
       rw[hi] at e1;cases e1
       rw[List.getElem?_set_self hiσ] at e2
       cases e2
       exact⟨u,r,.inr ⟨.inl hk,c,hc,hc'⟩⟩
     . rw[List.getElem?_set_ne (Ne.symm hj)] at e2
       obtain⟨u',r',q⟩:=hl j y v' e1 e2 e3
       refine⟨u',r',?_⟩
       rcases q with q|⟨k,c',e,z'⟩
       . exact .inl q
       . refine .inr ⟨k,c',e,z'.sameBut hs ?_⟩
         rintro rfl
         exact hj (A3h hN e1 (I.ok.inj _ _ _ e hc▸hi))
   . by_cases hcc:c'=c
     . subst hcc;exact⟨_,hc'⟩
     . obtain⟨w2,z2⟩:=I.cell y c' e
       exact⟨w2,z2.sameBut hs hcc⟩
   . obtain⟨e,n,ne,nf,d⟩:=I.pin p hp
     refine⟨(hs.2 p.1 ?_).trans e,n,ne,nf,d⟩
     intro q
     rw[q,hoc] at e
     have q':oc=p.2:=Option.some.inj e
     exact d w' (by rw[<-q'];exact hocd)
theorem A1m{M:Model}{A:Around}{E:Value ->Shared ->Prop}{i:Nat}{x:Str}{v:V}{u:Value}{Q:Unit ->Shared ->Prop}(I:Inv X pins σ H s)(hN:X.N.Nodup)(hi:X.N[i]?=some x)(hx:Loc X.env.scope x)(r:RelV v u)
   (h:∀s',Inv X pins (σ.set i (some v)) H s' ->Q () s') (hf:X.fn x=true\/X.env.scope.names.lookup x=some .local:=by first|exact .inl rfl|exact .inr rfl|assumption):wpAny M A (storeName X.env x u) Q E s:=
 A4q I hN hi hx r (fun s' I' _=>h s' I') hf
theorem Inv.call'{s':Shared}{ch:List Addr}(I:Inv X pins σ H s)(ho:s'.os=s.os)(u:Un (frs X.stack) ch H H' s.heap s'.heap)(hok:HOk X.prog X.w H' s'.heap)(hg:AllBare s'.gens)
   (hch:∀b∈ch,(b∈X.ex\/X.s₀.heap.objs.size<=b)/\b≠X.env.locals/\(∀x c,X.env.cells.lookup x=some c ->c≠b)/\∀p∈X.pn++pins,p.1≠b):Inv X pins σ H' s':=by
 obtain⟨h',g',d',t',o'⟩:=s'
 have e:o'=s.os:=ho
 subst e
 exact I.call (g':=g') (t':=t') (d':=d') u hok hg hch
end
noncomputable abbrev XK:=Value ->Option Addr ->Hp ->Prop
noncomputable abbrev St:=List (Option V)
noncomputable abbrev VK:=V ->Hp ->Prop
noncomputable abbrev TE:=St ->Hp ->VK ->Prop
noncomputable abbrev TT:=St ->Hp ->(Bool ->Hp ->Prop) ->Prop
noncomputable abbrev TA:=St ->Hp ->(List V ->Hp ->Prop) ->Prop
structure Ends where
 nx:St ->Hp ->Prop
 rt:VK
 bk:St ->Hp ->Prop:=fun _ _=>False
 ct:St ->Hp ->Prop:=fun _ _=>False
noncomputable abbrev TS:=Ends ->St ->Hp ->Prop
noncomputable def EP (X:Cx) (pins:List (Addr×Obj)) (σ:St) (Q:VK) (u:Value) (s':Shared):Prop:=∃v H',Inv X pins σ H' s'/\RelV v u/\Q v H'
noncomputable def TP (X:Cx) (pins:List (Addr×Obj)) (σ:St) (Q:Bool ->Hp ->Prop) (b:Bool) (s':Shared):Prop:=∃H',Inv X pins σ H' s'/\Q b H'
noncomputable def AP (X:Cx) (pins:List (Addr×Obj)) (σ:St) (Q:List V ->Hp ->Prop) (us:List Value) (s':Shared):Prop:=∃vs H',Inv X pins σ H' s'/\Vals vs us/\Q vs H'
noncomputable def SP (X:Cx) (pins:List (Addr×Obj)) (D:Ends) (f:Flow) (s':Shared):Prop:=
 match f with
 | .next=>∃σ' H',Inv X pins σ' H' s'/\D.nx σ' H'
 | .brk=>∃σ' H',Inv X pins σ' H' s'/\D.bk σ' H'
 | .cont=>∃σ' H',Inv X pins σ' H' s'/\D.ct σ' H'
 | .ret u=>∃v σ' H',Inv X pins σ' H' s'/\RelV v u/\D.rt v H'
noncomputable def PE (X:Cx) (e:Expr) (t:TE):Prop:=
 ∀(pins:List (Addr×Obj)) (s:Shared) (σ:St) (H:Hp) (Q:VK),Inv X pins σ H s ->t σ H Q ->wpAny (model X.prog X.w) X.A (eval e X.env) (EP X pins σ Q) X.xe s
noncomputable def PT (X:Cx) (e:Expr) (t:TT):Prop:=
 ∀(pins:List (Addr×Obj)) (s:Shared) (σ:St) (H:Hp) (Q:Bool ->Hp ->Prop),Inv X pins σ H s ->t σ H Q ->wpAny (model X.prog X.w) X.A (isTrue e X.env (eval e X.env)) (TP X pins σ Q) X.xe s
noncomputable def PW (X:Cx) (e:Expr) (t:TT):Prop:=
 ∀(whole:Sem Value) (pins:List (Addr×Obj)) (s:Shared) (σ:St) (H:Hp) (Q:Bool ->Hp ->Prop),Inv X pins σ H s ->t σ H Q ->wpAny (model X.prog X.w) X.A (isTrue e X.env whole) (TP X pins σ Q) X.xe s
theorem PW.pt{X:Cx}{e:Expr}{t:TT}(h:PW X e t):PT X e t:=h _
noncomputable def PA (X:Cx) (es:List Expr) (t:TA):Prop:=
 ∀(pos:Pos) (pins:List (Addr×Obj)) (s:Shared) (σ:St) (H:Hp) (Q:List V ->Hp ->Prop),Inv X pins σ H s ->t σ H Q ->wpAny (model X.prog X.w) X.A (spliced (backTo pos (starEach es X.env))) (AP X pins σ Q) X.xe s
noncomputable def PS (X:Cx) (st:Stmt) (t:TS):Prop:=
 ∀(pins:List (Addr×Obj)) (s:Shared) (σ:St) (H:Hp) (D:Ends),Inv X pins σ H s ->t D σ H ->wpAny (model X.prog X.w) X.A (exec st X.env) (SP X pins D) X.xe s
noncomputable def PSs (X:Cx) (st:List Stmt) (t:TS):Prop:=
 ∀(pins:List (Addr×Obj)) (s:Shared) (σ:St) (H:Hp) (D:Ends),Inv X pins σ H s ->t D σ H ->wpAny (model X.prog X.w) X.A (execs st X.env) (SP X pins D) X.xe s
theorem thn{α:Type}{t:Sem α}{Q Q':α ->Shared ->Prop}{M:Model}{A:Around}{E:Value ->Shared ->Prop}{s:Shared}(h:wpAny M A t Q E s)(hQ:∀a s,Q a s ->Q' a s):wpAny M A t Q' E s:=wpAny_mono h hQ fun _ _ x=>x
section
variable{X:Cx}
noncomputable def B3q (i:Nat):TE:=fun σ H Q=>∃v,σ[i]?=some (some v)/\Q v H
noncomputable def tC (v:V):TE:=fun _ H Q=>Q v H
theorem B8h{i:Nat}{x:Str}{pos:Pos}(hN:X.N[i]?=some x)(hv:Vis X.env.scope x)(hd:(x==("__debug__":Str))=false:=by decide)(hcd:(x==("__classdict__":Str))=false:=by decide):PE X (.Name x pos) (B3q i):=by
 intro pins s σ H Q I h
 obtain⟨v,e,h⟩:=h
 obtain⟨m,hn,hl⟩:=I.loc
 obtain⟨u,r,l⟩:=hl i x v hN e hv
 have fin:EP X pins σ Q u s:=⟨v,H,I,r,h⟩
 rcases l with⟨hk,hm⟩|⟨hk,c,hc,hcell⟩
 . exact wpAny_Name (wpAny_loadName_local I.ok.kind hk hn hm fin) hd
 . rcases hk with hk|hk
   . exact wpAny_Name (wpAny_loadName_cell I.ok.kind hk hc hcell fin) hd
   . exact wpAny_Name (wpAny_loadName_free I.ok.kind hk hc hcell fin hcd) hd
theorem A3{i j pos}:PE X (.Constant (.int i) j pos) (tC (.int i)):=fun _ _ _ H _ I h=>wpAny_Constant_int ⟨.int i,H,I.tok _,⟨_,rfl⟩,h⟩
theorem A2h{b j pos}:PE X (.Constant (.bool b) j pos) (tC (.bl b)):=fun _ _ _ H _ I h=>Constant_bool ⟨.bl b,H,I,rfl,h⟩
theorem A9c{j pos}:PE X (.Constant .none j pos) (tC .non):=fun _ _ _ H _ I h=>Constant_none ⟨.non,H,I,rfl,h⟩
theorem B1{x j pos}:PE X (.Constant (.str x) j pos) (tC (.str x)):=fun _ _ _ H _ I h=>Calls.Constant_str ⟨.str x,H,I.tok _,⟨_,rfl⟩,h⟩
noncomputable def Gl (X:Cx) (x:Str):Prop:=X.env.kindOf x=some .globalImplicit
theorem A0r{E:Value ->Shared ->Prop}{pins:List (Addr×Obj)}{s:Shared}{σ:St}{H:Hp}{x:Str}{u:Value}{pos:Pos}{Q:Value ->Shared ->Prop}(I:Inv X pins σ H s)(hg:Gl X x)(hm:X.mg x=some u)(h:Q u s)
   (hd:(x==("__debug__":Str))=false:=by decide):wpAny (model X.prog X.w) X.A (eval (.Name x pos) X.env) Q E s:=
 Calls.Name_function_global I.ok.kind hg (Calls.loadGlobal_global (by rw[I.ok.glob];exact I.mod.glob.keeps I.bk) hm h) hd
theorem A5z{E:Value ->Shared ->Prop}{pins:List (Addr×Obj)}{s:Shared}{σ:St}{H:Hp}{x:Str}{u:Value}{pos:Pos}{Q:Value ->Shared ->Prop}(I:Inv X pins σ H s)(hg:Gl X x)(hm:X.mg x=none)(hv:bootBuiltins x=some u)(h:Q u s)
   (hn:x≠"__name__":=by decide) (hd:(x==("__debug__":Str))=false:=by decide):wpAny (model X.prog X.w) X.A (eval (.Name x pos) X.env) Q E s:=by
 obtain⟨mb,h1,h2⟩:=I.mod.blt
 exact Calls.Name_function_global I.ok.kind hg (Calls.loadGlobal_builtin (by rw[I.ok.glob];exact I.mod.glob.keeps I.bk) hm (by rw[I.ok.blt];exact h1.keeps I.bk) ((h2 x hn).trans hv) h) hd
theorem B7m{x:Str}{v:V}{u:Value}{pos:Pos}(hg:Gl X x)(hm:X.mg x=some u)(r:RelV v u)(hd:(x==("__debug__":Str))=false:=by decide):PE X (.Name x pos) (tC v):=
 fun _ _ _ H _ I h=>A0r I hg hm ⟨v,H,I,r,h⟩ hd
theorem B5x{x:Str}{v:V}{u:Value}{pos:Pos}(hg:Gl X x)(hm:X.mg x=none)(hv:bootBuiltins x=some u)(r:RelV v u)(hn:x≠"__name__":=by decide)(hd:(x==("__debug__":Str))=false:=by decide):PE X (.Name x pos) (tC v):=
 fun _ _ _ H _ I h=>A5z I hg hm hv ⟨v,H,I,r,h⟩ hn hd
variable{a b:Expr}{ta tb:TE}{pos:Pos}
noncomputable def tB (t:TE):TT:=fun σ H Q=>t σ H fun x H1=>∃c,x= .bl c/\Q c H1
theorem G7{e:Expr}{t:TE}(h:PE X e t)(he:∀whole,isTrue e X.env whole=(do let v<-whole;standAt e.pos;holding [v] (truthy v)):=by intro _;rfl):PT X e (tB t):=by
 intro pins s σ H Q I hw
 refine isTrue_plain (thn (h pins s σ H _ I hw) fun v s1 hh_=>?_) (he _)
 obtain⟨x,H1,I1,r1,q1⟩:=hh_
 obtain⟨d,rfl,q⟩:=q1
 cases r1
 exact wpAny_truthy_bool ⟨H1,I1,q⟩
variable{tA tB':TT}{rest:List Expr}
noncomputable def C2t (t u:TT):TT:=fun σ H Q=>t σ H fun c H1=>if c=true then u σ H1 Q else Q false H1
noncomputable def tOr (t u:TT):TT:=fun σ H Q=>t σ H fun c H1=>if c=true then Q true H1 else u σ H1 Q
noncomputable def C3a (t:TT):TT:=fun σ H Q=>t σ H fun c H1=>Q (!c) H1
theorem B0j(ha:PT X a tA):PW X (.BoolOp .And [a] pos) tA:=by
 intro wh pins s σ H Q I h
 refine isTrue_and (thn (ha pins s σ H Q I h) fun c s1 e=>?_)
 cases c with
 |true=>exact isTrue_and_nil e
 |false=>exact e
theorem A4a(ha:PT X a tA):PW X (.BoolOp .Or [a] pos) tA:=by
 intro wh pins s σ H Q I h
 refine isTrue_or (thn (ha pins s σ H Q I h) fun c s1 e=>?_)
 cases c with
 |false=>exact isTrue_or_nil e
 |true=>exact e
theorem A9b(ha:PT X a tA)(hb:PW X (.BoolOp .And (b::rest) pos) tB'):PW X (.BoolOp .And (a::b::rest) pos) (C2t tA tB'):=by
 intro wh pins s σ H Q I h
 refine isTrue_and (thn (ha pins s σ H _ I h) fun c s1 ⟨H1,I1,q1⟩=>?_)
 cases c with
 |true=>exact hb wh pins s1 σ H1 Q I1 q1
 |false=>exact⟨H1,I1,q1⟩
theorem A4u(ha:PT X a tA)(hb:PW X (.BoolOp .Or (b::rest) pos) tB'):PW X (.BoolOp .Or (a::b::rest) pos) (tOr tA tB'):=by
 intro wh pins s σ H Q I h
 refine isTrue_or (thn (ha pins s σ H _ I h) fun c s1 ⟨H1,I1,q1⟩=>?_)
 cases c with
 |true=>exact⟨H1,I1,q1⟩
 |false=>exact hb wh pins s1 σ H1 Q I1 q1
theorem V2(ha:PT X a tA):PT X (.UnaryOp .Not a pos) (C3a tA):=by
 intro pins s σ H Q I h
 exact isTrue_not (ha pins s σ H (fun c H1=>Q (!c) H1) I h)
noncomputable def C1p (ta tb:TE):TE:=fun σ H Q=>ta σ H fun x H1=>∃c,x= .bl c/\if c=true then tb σ H1 Q else Q (.bl false) H1
noncomputable def C1e (ta:TE):TE:=fun σ H Q=>ta σ H fun x H1=>∃c,x= .bl c/\Q (.bl (!c)) H1
theorem A3g{op}{t:TE}(h:PE X a t):PE X (.BoolOp op [a] pos) t:=fun pins s σ H Q I hw=>BoolOp_one (h pins s σ H Q I hw)
theorem A3c(ha:PE X a ta)(hb:PE X (.BoolOp .And (b::rest) pos) tb):PE X (.BoolOp .And (a::b::rest) pos) (C1p ta tb):=by
 intro pins s σ H Q I h
 refine BoolOp_and (thn (ha pins s σ H _ I h) fun v s1 hh_=>?_)
 obtain⟨x,H1,I1,r1,q1⟩:=hh_
 obtain⟨c,rfl,q1⟩:=q1
 cases r1
 refine wpAny_truthy_bool ?_
 cases c with
 |true=>exact hb pins s1 σ H1 Q I1 q1
 |false=>exact⟨.bl false,H1,I1,rfl,q1⟩
theorem B9n(ha:PE X a ta):PE X (.UnaryOp .Not a pos) (C1e ta):=by
 intro pins s σ H Q I h
 refine UnaryOp_ (thn (ha pins s σ H _ I h) fun v s1 hh_=>?_)
 obtain⟨x,H1,I1,r1,q1⟩:=hh_
 obtain⟨c,rfl,q1⟩:=q1
 cases r1
 exact not_of (wpAny_truthy_bool ⟨.bl (!c),H1,I1,rfl,q1⟩)
noncomputable def tIf (t:TT) (ta tb:TE):TE:=fun σ H Q=>t σ H fun c H1=>if c=true then ta σ H1 Q else tb σ H1 Q
theorem J1{c:Expr}(hc:PT X c tA)(ha:PE X a ta)(hb:PE X b tb):PE X (.IfExp c a b pos) (tIf tA ta tb):=by
 intro pins s σ H Q I h
 refine wpAny_IfExp (thn (hc pins s σ H _ I h) fun d s1 ⟨H1,I1,q1⟩=>?_)
 cases d with
 |true=>exact ha pins s1 σ H1 Q I1 q1
 |false=>exact hb pins s1 σ H1 Q I1 q1
end
noncomputable def SqL (K:PySem.W.Frag) (H:Hp) (a:Addr) (xs:List V):Prop:=
 Rd H a (.lst xs)\/
   ∃(o:Obj) (its:Array Value) (n:Nat),K.lookup a=some o/\o.cls= .type "list"/\o.dict=none/\o.data= .seq its n/\its.size<=sizeLine/\Vals xs its.toList
noncomputable def SqT (K:PySem.W.Frag) (H:Hp) (a:Addr) (xs:List V):Prop:=
 Rd H a (.tup xs)\/
   ∃(o:Obj) (its:Array Value) (n:Nat),K.lookup a=some o/\o.cls= .type "tuple"/\o.data= .seq its n/\its.size<=sizeLine/\Vals xs its.toList
noncomputable def C3b:Value ->Option V
 | .none=>some .non
 | .bool b=>some (.bl b)
 | .int i _=>some (.int i)
 | .str x _=>some (.str x)
 | .bytes b _=>some (.byt b)
 | .float b _=>some (.flt b)
 | .ref a=>some (.ref a)
 | .type n=>some (.ty n)
 |_=>none
theorem RelV.abs{x:V}{u:Value}(r:RelV x u):C3b u=some x:=by
 cases x with
 |non=>cases r;rfl
 |bl _=>cases r;rfl
 |int _=>obtain⟨t,rfl⟩:=r;rfl
 |str _=>obtain⟨t,rfl⟩:=r;rfl
 |byt _=>obtain⟨t,rfl⟩:=r;rfl
 |flt _=>obtain⟨t,rfl⟩:=r;rfl
 |ref _=>cases r;rfl
 |ty _=>cases r;rfl
theorem RelV.inj{x y:V}{u:Value}(r:RelV x u)(q:RelV y u):x=y:=Option.some.inj (r.abs.symm.trans q.abs)
theorem Vals.inj:∀{xs ys:List V} {us:List Value},Vals xs us ->Vals ys us ->xs=ys
 |_,_,_,.nil,.nil=>rfl
 |_,_,_,.cons r t,.cons r' t'=>by rw[r.inj r',Vals.inj t t']
section
variable{X:Cx}{pins:List (Addr×Obj)}{σ:St}{H:Hp}{s:Shared}{a:Addr}{xs ys:List V}
theorem SqL.of{K:PySem.W.Frag}(h:H a=some (.lst xs)):SqL K H a xs:= .inl (.inl h)
theorem SqT.of{K:PySem.W.Frag}(h:H a=some (.tup xs)):SqT K H a xs:= .inl (.inl h)
theorem Inv.list(I:Inv X pins σ H s)(h:SqL X.K H a xs):∃its:List Value,Vals xs its/\PlainL s.heap a its.toArray/\xs.length<=sizeLine:=by
 rcases h with h|⟨o,its,n,hk,hc,hd,hs,hz,r⟩
 . obtain⟨z,its,n,r,e⟩:=h.ok I.hok
   exact⟨its,r,⟨_,n,e,rfl,rfl,rfl⟩,z⟩
 . refine⟨its.toList,r,⟨o,n,I.kIn a o hk,hc,hd,by simpa using hs⟩,?_⟩
   have e:=r.length
   simp only[Array.length_toList] at e
   omega
theorem Inv.tuple(I:Inv X pins σ H s)(h:SqT X.K H a xs):∃its:List Value,Vals xs its/\IsTup s.heap a its.toArray/\xs.length<=sizeLine:=by
 rcases h with h|⟨o,its,n,hk,hc,hs,hz,r⟩
 . obtain⟨z,its,r,p⟩:=h.ok I.hok
   exact⟨its,r,p,z⟩
 . refine⟨its.toList,r,⟨o,I.kIn a o hk,hc,n,by simpa using hs⟩,?_⟩
   have e:=r.length
   simp only[Array.length_toList] at e
   omega
theorem Inv.list_inj(I:Inv X pins σ H s)(h:SqL X.K H a xs)(h':SqL X.K H a ys):xs=ys:=by
 obtain⟨its,r,⟨o,n,e,_,_,d⟩,_⟩:=I.list h
 obtain⟨its',r',⟨o',n',e',_,_,d'⟩,_⟩:=I.list h'
 rw[e] at e';cases e'
 rw[d] at d'
 injection d' with d1 _
 have:its=its':=by simpa using congrArg Array.toList d1
 subst this
 exact r.inj r'
theorem Inv.tuple_inj(I:Inv X pins σ H s)(h:SqT X.K H a xs)(h':SqT X.K H a ys):xs=ys:=by
 obtain⟨its,r,⟨o,e,_,n,d⟩,_⟩:=I.tuple h
 obtain⟨its',r',⟨o',e',_,n',d'⟩,_⟩:=I.tuple h'
 rw[e] at e';cases e'
 rw[d] at d'
 injection d' with d1 _
 have:its=its':=by simpa using congrArg Array.toList d1
 subst this
 exact r.inj r'
end
noncomputable abbrev Cx.wish (X:Cx) (E:Value ->Shared ->Prop):Cx:={X with xe:=E}
noncomputable abbrev Cx.nox (X:Cx):Cx:=X.wish fun _ _=>False
theorem Cx.Ok.wish{X:Cx}(ok:X.Ok)(E:Value ->Shared ->Prop):(X.wish E).Ok:=
 ⟨ok.mod,ok.kind,ok.glob,ok.blt,ok.above,ok.inj,ok.has,ok.cab,ok.hd,ok.frames,ok.stk,ok.exf,ok.bs,ok.bsz,ok.noex,ok.exfs,ok.funs,ok.frf⟩
theorem Cx.Ok.unwish{X:Cx}{E:Value ->Shared ->Prop}(ok:(X.wish E).Ok):X.Ok:=
 ⟨ok.mod,ok.kind,ok.glob,ok.blt,ok.above,ok.inj,ok.has,ok.cab,ok.hd,ok.frames,ok.stk,ok.exf,ok.bs,ok.bsz,ok.noex,ok.exfs,ok.funs,ok.frf⟩
section
variable{X:Cx}{pins:List (Addr×Obj)}{σ:St}{H:Hp}{s:Shared}{E:Value ->Shared ->Prop}
theorem Inv.wish(I:Inv X pins σ H s)(E:Value ->Shared ->Prop):Inv (X.wish E) pins σ H s:=⟨I.ok.wish E,I.os,I.bare,I.base,I.loc,I.cell,I.free,I.freeC,I.pin,I.hok,I.len⟩
theorem Inv.unwish(I:Inv (X.wish E) pins σ H s):Inv X pins σ H s:=⟨I.ok.unwish,I.os,I.bare,I.base,I.loc,I.cell,I.free,I.freeC,I.pin,I.hok,I.len⟩
theorem SP.unwish{D:Ends}{f:Flow}{s':Shared}(h:SP (X.wish E) pins D f s'):SP X pins D f s':=by
 cases f with
 |next=>obtain⟨σ',H',I,q⟩:=h;exact⟨σ',H',I.unwish,q⟩
 |brk=>obtain⟨σ',H',I,q⟩:=h;exact⟨σ',H',I.unwish,q⟩
 |cont=>obtain⟨σ',H',I,q⟩:=h;exact⟨σ',H',I.unwish,q⟩
 |ret u=>obtain⟨v,σ',H',I,r,q⟩:=h;exact⟨v,σ',H',I.unwish,r,q⟩
theorem PSs.nox{st:List Stmt}{t:TS}(h:PSs X.nox st t):PSs X st t:=fun pins s σ H D I hw=>
 wpAny_mono (h pins s σ H D (I.wish _) hw) (fun _ _ q=>q.unwish) fun _ _ z=>False.elim z
end
section
variable{X:Cx}{st:Stmt}{rest:List Stmt}{t u:TS}{e:Expr}{te:TE}{pos:Pos}
noncomputable def C1t:TS:=fun D σ H=>D.nx σ H
noncomputable def C1v (t u:TS):TS:=fun D σ H=>t {D with nx:=u D} σ H
theorem C6:PSs X [] C1t:=fun _ _ σ H _ I h=>wpAny_execs_nil ⟨σ,H,I,h⟩
theorem A1(h1:PS X st t)(h2:PSs X rest u):PSs X (st::rest) (C1v t u):=by
 intro pins s σ H D I h
 refine wpAny_execs_cons (thn (h1 pins s σ H {D with nx:=u D} I h) fun f s1 q=>?_)
 cases f with
 | next=>
   obtain⟨σ',H',I',q⟩:=q
   exact h2 pins s1 σ' H' D I' q
 |ret v=>exact q
 |brk=>exact q
 |cont=>exact q
theorem A7(h1:PS X st t):PSs X [st] t:=by
 intro pins s σ H D I h
 refine wpAny_execs_cons (thn (h1 pins s σ H D I h) fun f s1 q=>?_)
 cases f with
 |next=>exact wpAny_execs_nil q
 |ret v=>exact q
 |brk=>exact q
 |cont=>exact q
theorem Inv.quiet{pins:List (Addr×Obj)}{σ:St}{H:Hp}{s:Shared}(I:Inv X pins σ H s):interactive X.env=false:=by simp[interactive,I.ok.kind]
noncomputable def C2a (te:TE):TS:=fun D σ H=>te σ H fun _ H1=>D.nx σ H1
theorem U5(he:PE X e te)(hs:swapsWith e none pos.line X.env=pure false:=by rfl):PS X (.Expr e pos) (C2a te):=by
 intro pins s σ H D I h
 exact wpAny_Expr_any (thn (he pins s σ H _ I h) fun v s1 ⟨x,H1,I1,r1,q1⟩=>⟨σ,H1,I1,q1⟩) I.quiet hs
noncomputable def C3f (te:TE):TS:=fun D σ H=>te σ H D.rt
theorem B5(he:PE X e te):PS X (.Return (some e) pos) (C3f te):=by
 intro pins s σ H D I h
 exact wpAny_Return_some (thn (he pins s σ H _ I h) fun v s1 ⟨x,H1,I1,r1,q1⟩=>⟨x,σ,H1,I1,r1,q1⟩)
noncomputable def C2r (c:TT) (t u:TS):TS:=fun D σ H=>c σ H fun b H1=>if b=true then t D σ H1 else u D σ H1
theorem G4{c:Expr}{a b:List Stmt}{tc:TT}(hc:PT X c tc)(ha:PSs X a t)(hb:PSs X b u):PS X (.If c a b pos) (C2r tc t u):=by
 intro pins s σ H D I h
 refine wpAny_If (thn (hc pins s σ H _ I h) fun d s1 ⟨H1,I1,q1⟩=>?_)
 cases d with
 |true=>exact ha pins s1 σ H1 D I1 q1
 |false=>exact hb pins s1 σ H1 D I1 q1
end
noncomputable abbrev TG:=V ->St ->Hp ->(St ->Hp ->Prop) ->Prop
noncomputable abbrev TGs:=List V ->St ->Hp ->(St ->Hp ->Prop) ->Prop
noncomputable def PG (X:Cx) (target:Expr) (t:TG):Prop:=
 ∀ (pins:List (Addr×Obj)) (s:Shared) (σ:St) (H:Hp) (v:V) (u:Value) (Q:St ->Hp ->Prop),Inv X pins σ H s ->RelV v u ->t v σ H Q ->
   wpAny (model X.prog X.w) X.A (assign target X.env u) (fun _ s'=>∃σ' H',Inv X pins σ' H' s'/\Q σ' H') X.xe s
noncomputable def PGs (X:Cx) (ts:List Expr) (t:TGs):Prop:=
 ∀ (pins:List (Addr×Obj)) (s:Shared) (σ:St) (H:Hp) (vs:List V) (us:List Value) (Q:St ->Hp ->Prop),Inv X pins σ H s ->Vals vs us ->t vs σ H Q ->
   wpAny (model X.prog X.w) X.A (assignInOrder ((assignEach ts X.env).map (·.2)) us) (fun _ s'=>∃σ' H',Inv X pins σ' H' s'/\Q σ' H') X.xe s
section
variable{X:Cx}{pos:Pos}
noncomputable def A4n (i:Nat):TG:=fun v σ H Q=>Q (σ.set i (some v)) H
theorem V5{i:Nat}{x:Str}(hN:X.N.Nodup)(hi:X.N[i]?=some x)(hx:Loc X.env.scope x)(hf:X.fn x=true\/X.env.scope.names.lookup x=some .local:=by first|exact .inl rfl|exact .inr rfl|assumption):PG X (.Name x pos) (A4n i):=by
 intro pins s σ H v u Q I r h
 exact wpAny_assign_Name (A1m I hN hi hx r (fun s' I'=>⟨_,H,I',h⟩) hf)
noncomputable def C2d:TGs:=fun vs σ H Q=>vs=[]/\Q σ H
noncomputable def B4d (t:TG) (u:TGs):TGs:=fun vs σ H Q=>∃v r,vs=v::r/\t v σ H fun σ' H'=>u r σ' H' Q
theorem A9w:PGs X [] C2d:=by
 intro pins s σ H vs us Q I r h
 obtain⟨e,h⟩:=h
 subst e
 cases r
 exact assignInOrder_nil ⟨σ,H,I,h⟩
theorem A1b{e:Expr}{es:List Expr}{t:TG}{u:TGs}(h1:PG X e t)(h2:PGs X es u)
   (hs:(assignEach (e::es) X.env).map (·.2)=assign e X.env::(assignEach es X.env).map (·.2):=by rfl):PGs X (e::es) (B4d t u):=by
 intro pins s σ H vs us Q I r h
 obtain⟨v,vr,e1,h⟩:=h
 subst e1
 cases r with
 | cons r rr=>
   rw[hs]
   refine assignInOrder_cons (thn (h1 pins s σ H _ _ _ I r h) fun _ s1 hh_=>?_)
   obtain⟨σ1,H1,I1,q1⟩:=hh_
   exact h2 pins s1 σ1 H1 _ _ Q I1 rr q1
noncomputable def B7j (K:PySem.W.Frag) (n:Nat) (t:TGs):TG:=fun v σ H Q=>∃a xs,v= .ref a/\SqT K H a xs/\xs.length=n/\t xs σ H Q
theorem B8v{es:List Expr}{k:Nat}{t:TGs}{n:Nat}(hc:X.calm=true)(h:PGs X es t)
   (hn:(assignEach es X.env).length=n:=by rfl) (hst:(assignEach es X.env).findIdx? (·.1)=none:=by rfl):PG X (.Tuple es k pos) (B7j X.K n t):=by
 intro pins s σ H v u Q I r hw
 obtain⟨a,xs,e1,hq,hl,hw⟩:=hw
 subst e1
 cases r
 obtain⟨its,rv,ht,hz⟩:=I.tuple hq
 refine assign_Tuple_tuple (I.ok.hd hc) ht (by simp[hn, <-hl,rv.length]) hst fun h' hx=>?_
 have I1:Inv X pins σ H {s with heap:=h'}:=I.kept (t':=s.toks) fun b o e=>hx b o (Nat.ne_of_lt (Heap.lt_size e)) e
 exact h pins _ σ H xs _ Q I1 (by simpa using rv) hw
noncomputable def B7a (te:TE) (g:TG):TS:=fun D σ H=>te σ H fun x H1=>g x σ H1 D.nx
theorem B8k{tg e:Expr}{te:TE}{g:TG}(he:PE X e te)(hg:PG X tg g)(hs:swapsWithSole [tg] e pos.line X.env=pure false:=by rfl)(hw:swappedStores [tg] e X.env=pure none:=by rfl)
   (h1:(assignEach [tg] X.env).map (·.2)=[assign tg X.env]:=by rfl):PS X (.Assign [tg] e pos) (B7a te g):=by
 intro pins s σ H D I h
 refine wpAny_Assign_stores (thn (he pins s σ H _ I h) fun v s1 hh_=>?_) hs hw
 obtain⟨x,H1,I1,r1,q1⟩:=hh_
 rw[h1]
 exact thn (hg pins s1 σ H1 x v _ I1 r1 q1) fun _ s2 q=>q
theorem B4{i:Nat}{x:Str}{e:Expr}{te:TE}{pos':Pos}(hN:X.N.Nodup)(hi:X.N[i]?=some x)(hx:Loc X.env.scope x)(he:PE X e te)(hs:swapsWith e (some (.Name x pos')) pos.line X.env=pure false:=by rfl)(hf:X.fn x=true\/X.env.scope.names.lookup x=some .local:=by first|exact .inl rfl|exact .inr rfl|assumption):
   PS X (.Assign [.Name x pos'] e pos) (B7a te (A4n i)):=by
 intro pins s σ H D I h
 refine wpAny_Assign_Name (thn (he pins s σ H _ I h) fun v s1 hh_=>?_) hs
 obtain⟨y,H1,I1,r1,q1⟩:=hh_
 exact A1m I1 hN hi hx r1 (fun s2 I2=>⟨_,H1,I2,q1⟩) hf
end
section
variable{X:Cx}{pos:Pos}
noncomputable def B4w (c:TT) (tb:TS):TS:=fun D σ H=>∃W:Nat ->St ->Hp ->Prop,(∃m,W m σ H)/\∀m σ H,W m σ H ->
 c σ H fun b H1=>if b=true then∃N:St ->Hp ->Prop,(∀σ' H',N σ' H' ->∃m',m'<m/\W m' σ' H')/\tb {D with nx:=N,ct:=N,bk:=D.nx} σ H1 else D.nx σ H1
theorem A6y{c:Expr}{body:List Stmt}{tc:TT}{tb:TS}(hp:PassesOwn (model X.prog X.w) X.A X.env X.xe)(hc:PT X c tc)(hb:PSs X body tb):PS X (.While c body [] pos) (B4w tc tb):=by
 intro pins s σ H D I h
 obtain⟨W,⟨m0,w0⟩,turn⟩:=h
 refine wpAny_While (codeAny_whileLoop (fun n s'=>∃σ' H',Inv X pins σ' H' s'/\W n σ' H') ?_ m0 ⟨σ,H,I,w0⟩)
 rintro n s1 ⟨σ1,H1,I1,w1⟩
 refine wpAny_passesOwn hp (thn (hc pins s1 σ1 H1 _ I1 (turn n σ1 H1 w1)) fun b s2 ⟨H2,I2,q2⟩=>?_)
 cases b with
 | true=>
   obtain⟨N,hN,q2⟩:=q2
   rw[if_pos rfl]
   refine wpAny_passesOwn hp (thn (hb pins s2 σ1 H2 _ I2 q2) fun f s3 q3=>?_)
   cases f with
   | next=>
     obtain⟨σ3,H3,I3,n3⟩:=q3
     obtain⟨m',hm,w3⟩:=hN σ3 H3 n3
     exact⟨m',hm,σ3,H3,I3,w3⟩
   | cont=>
     obtain⟨σ3,H3,I3,n3⟩:=q3
     obtain⟨m',hm,w3⟩:=hN σ3 H3 n3
     exact⟨m',hm,σ3,H3,I3,w3⟩
   |brk=>exact q3
   |ret v=>exact q3
 | false=>
   rw[if_neg Bool.false_ne_true]
   exact wpAny_execs_nil ⟨σ1,H2,I2,q2⟩
end
structure It where
 go:Nat ->Hp ->Prop
 yld:Nat ->Hp ->V ->Hp ->Prop
 stop:Nat ->Hp ->Prop
noncomputable def A0m (X:Cx) (pins:List (Addr×Obj)) (H:Hp) (b:Addr):Prop:=
 H b=none/\b≠X.env.locals/\b ∉ X.fs/\(b∈X.ex\/X.s₀.heap.objs.size<=b)/\(∀x c,X.env.cells.lookup x=some c ->c≠b)/\∀p∈X.pn++pins,p.1≠b
theorem Inv.fpOk{X:Cx}{pins:List (Addr×Obj)}{σ:St}{H H':Hp}{s:Shared}{b:Addr}(I:Inv X pins σ H s)(hb:s.heap.objs.size<=b)(hn:H' b=none):A0m X pins H' b:=by
 refine⟨hn,Nat.ne_of_gt (Nat.lt_of_lt_of_le I.lt hb),I.nofs hb,.inr (Nat.le_trans I.sz hb),fun x c e z=>?_,fun p hp z=>?_⟩
 . obtain⟨v,q⟩:=I.cell x c e
   exact absurd (Nat.lt_of_lt_of_le q.lt (by rw[z];exact hb)) (Nat.lt_irrefl _)
 . exact absurd (Nat.lt_of_lt_of_le (Heap.lt_size (I.pin p hp).1) (by rw[z];exact hb)) (Nat.lt_irrefl _)
structure Turn(P:Program)(w:World)(K:PySem.W.Frag)(tg:Expr)(J:It)(fp:List Addr)(it:Addr)(tn:Nat ->Heap ->Prop):Prop where
 mem:it∈fp
 obj:∀i h,tn i h ->∀b∈fp,∃o,h.get? b=some o/\∀v,o.data≠ .cell v
 keep:∀i h h',tn i h ->(∀b∈fp,∀o,h.get? b=some o ->h'.get? b=some o) ->tn i h'
 item:∀(X:Cx),X.prog=P ->X.w=w ->X.K=K ->X.calm=true ->∀(i:Nat) (pins:List (Addr×Obj)) (s:Shared) (σ:St) (H:Hp) (E:Value ->Shared ->Prop),Inv X pins σ H s ->(∀b∈fp,A0m X pins H b) ->tn i s.heap ->J.go i H ->
   wpAny (model P w) X.A (pyNext (.ref it)) (fun r s1=>∃u,r=some u/\
     wpAny (model P w) X.A (letOwnedTupleGo tg (.ref it) u) (fun _ s2=>∃x H',Inv X pins σ H' s2/\RelV x u/\J.yld i H x H'/\tn (i+1) s2.heap/\∀b∈fp,H' b=none) E s1) E s
 done:∀(X:Cx),X.prog=P ->X.w=w ->X.K=K ->X.calm=true ->∀(i:Nat) (pins:List (Addr×Obj)) (s:Shared) (σ:St) (H:Hp) (E:Value ->Shared ->Prop),Inv X pins σ H s ->(∀b∈fp,A0m X pins H b) ->tn i s.heap ->J.stop i H ->
   wpAny (model P w) X.A (pyNext (.ref it)) (fun r s1=>r=none/\Inv X pins σ H s1) E s
 self:∀(A:Around) (i:Nat) (s:Shared) (Q:Value ->Shared ->Prop) (E:Value ->Shared ->Prop),tn i s.heap ->Q (.ref it) s ->wpAny (model P w) A (pyIter (.ref it)) Q E s
noncomputable abbrev TI:=St ->Hp ->(It ->Hp ->Prop) ->Prop
noncomputable def PIE (X:Cx) (pins:List (Addr×Obj)) (σ:St) (tg:Expr) (R:It ->Hp ->Prop) (itv:Value) (s2:Shared):Prop:=
 ∃(it:Addr) (fp:List Addr) (tn:Nat ->Heap ->Prop) (J:It) (H':Hp),itv= .ref it/\Inv X pins σ H' s2/\Turn X.prog X.w X.K tg J fp it tn/\tn 0 s2.heap/\(∀b∈fp,A0m X pins H' b)/\R J H'
noncomputable def PI (X:Cx) (tg iter:Expr) (wi:TI):Prop:=
 ∀ (pins:List (Addr×Obj)) (s:Shared) (σ:St) (H:Hp) (R:It ->Hp ->Prop),Inv X pins σ H s ->wi σ H R ->
   wpAny (model X.prog X.w) X.A (eval iter X.env) (fun v s1=>wpAny (model X.prog X.w) X.A (pyIter v) (PIE X pins σ tg R) X.xe s1) X.xe s
theorem B3c{M:Model}{A:Around}{E:Value ->Shared ->Prop}{s:Shared}{tg:Expr}{it:Addr}{u:Value}{o:Obj}{n:String}{vs:Array Value}{Q:Unit ->Shared ->Prop}(ho:s.heap.get? it=some o)(hc:o.cls= .type n)(hd:o.data= .fields vs)
   (hn: ["enumerate","zip","dict_itemiterator","dict_reverseitemiterator","odict_iterator","itertools.zip_longest","itertools.pairwise"].contains n=false) (hQ:Q () s):wpAny M A (letOwnedTupleGo tg (.ref it) u) Q E s:=by
 unfold letOwnedTupleGo
 cases tg <;>first
   |exact wpAny_pure hQ
   |(cases u<;>first
       |exact wpAny_pure hQ
       | (refine wpAny_bind (wpAny_load ho ?_)
          rw[hc,hd]
          show wpAny M A (if(["enumerate","zip","dict_itemiterator","dict_reverseitemiterator","odict_iterator","itertools.zip_longest","itertools.pairwise"].contains n&&vs[0]?==some (rawInt _))=true then _ else _) Q E s
          rw[if_neg (by intro h;rw[hn,Bool.false_and] at h;cases h)]
          exact wpAny_pure hQ))
noncomputable def Itl (K:PySem.W.Frag) (a:Addr):It:=
 ⟨fun i H=>∃xs x,SqL K H a xs/\xs[i]?=some x,fun i H x H'=>H'=H/\∀xs,SqL K H a xs ->xs[i]?=some x,fun i H=>∃xs,SqL K H a xs/\xs.length<=i⟩
noncomputable def Itt (K:PySem.W.Frag) (a:Addr):It:=
 ⟨fun i H=>∃xs x,SqT K H a xs/\xs[i]?=some x,fun i H x H'=>H'=H/\∀xs,SqT K H a xs ->xs[i]?=some x,fun i H=>∃xs,SqT K H a xs/\xs.length<=i⟩
noncomputable def Itr (lo:Int) (n:Nat):It:=⟨fun i _=>i<n,fun i H x H'=>H'=H/\x= .int (lo+i),fun i _=>n<=i⟩
theorem A7z{P:Program}{w:World}{K:PySem.W.Frag}{tg:Expr}(it:Addr)(lo:Int)(n:Nat):Turn P w K tg (Itr lo n) [it] it (fun i h=>IsRangeIter h it (lo+(i:Nat)*1) ((n:Int)- (i:Nat)) 1) where
 mem:=by simp
 obj :=fun i h st b hb=>by
   have e:b=it:=by simpa using hb
   subst e
   exact⟨_,st,fun v z=>by
     have z':Data.fields _=Data.cell v:=z
     cases z'⟩
 keep:=fun i h h' st k=>k it (by simp) _ st
 item:=by
   intro X hP hw hK hc i pins s σ H E I hf st hg
   subst hP hw hK
   obtain⟨f0,f1,f2,f3,f4,f5⟩:=hf it (by simp)
   have W:=Walks.range (prog:=X.prog) (w:=X.w) (I.ok.hd hc) it lo 1 n
   refine W.item i s _ _ hg st fun v h' tk hv st' kk=>?_
   obtain⟨t,rfl⟩:=hv
   have I1:Inv X pins σ H {s with heap:=h',toks:=tk}:=I.turned (fun b o hb e=>kk b o (by simpa using hb) e) f0 f1 f3 f4 f5
   refine⟨_,rfl,B3c (s:={s with heap:=h',toks:=tk}) (n:="range_iterator") st' rfl rfl (by decide) ⟨.int (lo+i),H,I1,⟨t,?_⟩,⟨rfl,rfl⟩,st',fun b hb=>(hf b hb).1⟩⟩
   rw[Int.mul_one]
 done:=by
   intro X hP hw hK hc i pins s σ H E I hf st hg
   subst hP hw hK
   obtain⟨f0,f1,f2,f3,f4,f5⟩:=hf it (by simp)
   exact wpAny_pyNext_range_end (I.ok.hd hc) st (by have:n<=i:=hg;omega) fun h' eb=>⟨rfl,I.turned (t':=s.toks) (fun b o hb e=>eb b o hb e) f0 f1 f3 f4 f5⟩
 self:=fun _ _ _ _ _ st h=>wpAny_pyIter_rangeiter st h
section
variable{X:Cx}{tg:Expr}
noncomputable def B8g (K:PySem.W.Frag) (tl:TE):TI:=fun σ H R=>tl σ H fun x H1=>∃a,x= .ref a/\(∃xs,SqL K H1 a xs)/\R (Itl K a) H1
noncomputable def C3k (K:PySem.W.Frag) (tl:TE):TI:=fun σ H R=>tl σ H fun x H1=>∃a,x= .ref a/\(∃xs,SqT K H1 a xs)/\R (Itt K a) H1
theorem B4x{pins:List (Addr×Obj)}{σ:St}{H:Hp}{s:Shared}{R:It ->Hp ->Prop}{E:Value ->Shared ->Prop}{lo hi:Int}{t u v:Tok}{tk:Nat}(I:Inv X pins σ H s)(h1: -(2^62)<=lo)(h2:lo<2^62)(h3: -(2^62)<=hi)(h4:hi<2^62)
   (q:R (Itr lo (hi-lo).toNat) H):wpAny (model X.prog X.w) X.A (pyIter (.ref s.heap.objs.size)) (PIE X pins σ tg R) E {s with heap:=s.heap.push {cls:= .type "range",data:= .fields #[.int lo t,.int hi u,.int 1 v]},toks:=tk}:=by
 refine wpAny_pyIter_range (IsRange.new ..) (small_one h1 h2 h3 h4) ?_
 have I1:Inv X pins σ H {s with heap:=s.heap.push {cls:= .type "range",data:= .fields #[.int lo t,.int hi u,.int 1 v]},toks:=tk}:=I.kept fun b o e=>Heap.get?_push_of_some _ e
 refine⟨(s.heap.push {cls:= .type "range",data:= .fields #[.int lo t,.int hi u,.int 1 v]}).objs.size,[(s.heap.push {cls:= .type "range",data:= .fields #[.int lo t,.int hi u,.int 1 v]}).objs.size],_,_,H,rfl,
   I1.kept (t':=tk) fun b o e=>Heap.get?_push_of_some _ e,A7z _ lo (hi-lo).toNat,?_,fun b hb=>?_,q⟩
 . have e1:lo+((0:Nat):Int)*1=lo:=by simp
   have e2:(((hi-lo).toNat:Nat):Int)- ((0:Nat):Int)=Builtin.Range.rangeSize lo hi 1:=by rw[rangeSize_one];split<;>omega
   show IsRangeIter _ _ (lo+((0:Nat):Int)*1) ((((hi-lo).toNat:Nat):Int)- ((0:Nat):Int)) 1
   rw[e1,e2]
   exact Heap.get?_push_size _ rfl
 . have e:b=(s.heap.push {cls:= .type "range",data:= .fields #[.int lo t,.int hi u,.int 1 v]}).objs.size:=by simpa using hb
   subst e
   exact I1.fpOk (Nat.le_refl _) (I1.hok.fresh (Nat.le_refl _))
noncomputable def C1h (ta:TA):TI:=fun σ H R=>ta σ H fun vs H1=>∃j:Int,vs=[.int j]/\ -(2^62)<=j/\j<2^62/\R (Itr 0 j.toNat) H1
theorem A1s{a:Expr}{ta:TA}{p pos:Pos}(hg:Gl X "range")(hm:X.mg "range"=none)(ha:PA X [a] ta)(hs:starEach [a] X.env=[(false,eval a X.env)]:=by rfl):PI X tg (.Call (.Name "range" p) [a] [] pos) (C1h ta):=by
 intro pins s σ H R I h
 refine Call_ (A5z I hg hm boot_range (PyProof.Rows.callWith_type1 (thn (ha pos pins s σ H _ I h) fun us s1 hh_=>?_) hs rfl))
 obtain⟨vs,H1,I1,r1,q1⟩:=hh_
 obtain⟨j,e,q1,q2,q⟩:=q1
 subst e
 cases r1 with
 | cons r rr=>
   cases rr
   obtain⟨t,rfl⟩:=r
   exact call_range_1 (B4x I1 (by omega) (by omega) q1 q2 (by simpa using q))
noncomputable def C3j (wi:TI) (g:TG) (tb:TS):TS:=fun D σ H=>wi σ H fun J H1=>∃W:Nat ->Nat ->St ->Hp ->Prop,(∃m,W 0 m σ H1)/\∀i m σ H,W i m σ H ->
 (J.stop i H/\D.nx σ H)\/(J.go i H/\∃N:St ->Hp ->Prop,(∀σ' H',N σ' H' ->∃m',m'<m/\W (i+1) m' σ' H')/\∀x H',J.yld i H x H' ->g x σ H' fun σ2 H2=>tb {D with nx:=N,ct:=N,bk:=D.nx} σ2 H2)
noncomputable def A5y (fp:List Addr) (h:Heap):List (Addr×Obj):=fp.filterMap fun b=>(h.get? b).map fun o=>(b,o)
theorem A3e{fp:List Addr}{h:Heap}{b:Addr}{o:Obj}(hb:b∈fp)(e:h.get? b=some o):(b,o)∈A5y fp h:=List.mem_filterMap.mpr ⟨b,hb,by rw[e];rfl⟩
theorem B1y{fp:List Addr}{h:Heap}{p:Addr×Obj}(hp:p∈A5y fp h):p.1∈fp/\h.get? p.1=some p.2:=by
 obtain⟨b,hb,e⟩:=List.mem_filterMap.mp hp
 cases q:h.get? b with
 |none=>rw[q] at e;cases e
 | some o=>
   rw[q] at e
   have e':(b,o)=p:=Option.some.inj e
   subst e'
   exact⟨hb,q⟩
theorem Inv.pinned{pins:List (Addr×Obj)}{σ:St}{H:Hp}{s:Shared}{fp:List Addr}(I:Inv X pins σ H s)(hf:∀b∈fp,A0m X pins H b)(ho:∀b∈fp,∃o,s.heap.get? b=some o/\∀v,o.data≠ .cell v):Inv X (pins++A5y fp s.heap) σ H s:=
 I.pins_of fun p hp=>(List.mem_append.mp hp).elim (fun z=>I.pin p (List.mem_append_right _ z)) fun z=>by
   obtain⟨hb,e⟩:=B1y z
   obtain⟨f0,f1,f2,_⟩:=hf p.1 hb
   obtain⟨o,e',d⟩:=ho p.1 hb
   rw[e] at e';cases e'
   exact⟨e,f0,f1,f2,d⟩
theorem Inv.unpinned{pins pl:List (Addr×Obj)}{σ:St}{H:Hp}{s:Shared}(I:Inv X (pins++pl) σ H s):Inv X pins σ H s:=I.pins_of fun p hp=>I.pin p (List.mem_append_right _ (List.mem_append_left _ hp))
theorem A8j{iter:Expr}{body:List Stmt}{wi:TI}{g:TG}{tb:TS}{pos:Pos}(hp:PassesOwn (model X.prog X.w) X.A X.env X.xe)(hc:X.calm=true)(hi:PI X tg iter wi)(hg:PG X tg g)(hb:PSs X body tb)
   (hs:∀x,foldedSetIterable iter X.env x=pure x:=by intro _;rfl):PS X (.For tg iter body [] pos) (C3j wi g tb):=by
 intro pins s σ H D I h
 refine wpAny_For (thn (hi pins s σ H _ I h) fun v s1 h1=>thn h1 fun itv s2 h2=>?_) hs
 obtain⟨it,fp,tn,J,H2,e,I2,T,st2,f2,W,⟨m0,w0⟩,turn⟩:=h2
 subst e
 have stat:∀{H':Hp},(∀b∈fp,H' b=none) ->∀b∈fp,A0m X pins H' b:=fun hn b hb=>⟨hn b hb,(f2 b hb).2⟩
 refine codeAny_forLoop_any (fun n s'=>∃i σ' H',Inv X pins σ' H' s'/\tn i s'.heap/\(∀b∈fp,H' b=none)/\W i n σ' H') ?_ m0 ⟨0,σ,H2,I2,st2,fun b hb=>(f2 b hb).1,w0⟩
 rintro n s3 ⟨i,σ3,H3,I3,st3,fr3,w3⟩
 rcases turn i n σ3 H3 w3 with⟨stop,qn⟩|⟨go,N,hN,step⟩
 . refine wpAny_passesOwn hp (thn (T.done X rfl rfl rfl hc i pins s3 σ3 H3 X.xe I3 (stat fr3) st3 stop) fun r s4 ⟨hr,I4⟩=>?_)
   subst hr
   exact wpAny_execs_nil ⟨σ3,H3,I4,qn⟩
 . refine wpAny_passesOwn hp (thn (T.item X rfl rfl rfl hc i pins s3 σ3 H3 X.xe I3 (stat fr3) st3 go) fun r s4 ⟨u,hr,h4⟩=>?_)
   subst hr
   refine wpAny_passesOwn hp (thn h4 fun _ s5 hh_=>?_)
   obtain⟨x,H5,I5,r5,y5,st5,fr5⟩:=hh_
   have I5':=I5.pinned (stat fr5) (T.obj _ _ st5)
   refine wpAny_passesOwn hp (thn (hg _ s5 σ3 H5 x u _ I5' r5 (step x H5 y5)) fun _ s6 hh_=>?_)
   obtain⟨σ6,H6,I6,q6⟩:=hh_
   refine wpAny_passesOwn hp (thn (hb _ s6 σ6 H6 _ I6 q6) fun f s7 q7=>?_)
   have again:∀{σ7:St} {H7:Hp},Inv X (pins++A5y fp s5.heap) σ7 H7 s7 ->N σ7 H7 ->∃m,m<n/\∃i σ' H',Inv X pins σ' H' s7/\tn i s7.heap/\(∀b∈fp,H' b=none)/\W i m σ' H':=fun{σ7 H7} I7 n7=>by
     obtain⟨m',hm,w7⟩:=hN σ7 H7 n7
     refine⟨m',hm,i+1,σ7,H7,I7.unpinned,T.keep _ _ _ st5 fun b hb o e=>(I7.pin (b,o) (List.mem_append_right _ (List.mem_append_right _ (A3e hb e)))).1,fun b hb=>?_,w7⟩
     obtain⟨o,e,d⟩:=T.obj _ _ st5 b hb
     exact(I7.pin (b,o) (List.mem_append_right _ (List.mem_append_right _ (A3e hb e)))).2.1
   cases f with
   |next=>obtain⟨σ7,H7,I7,n7⟩:=q7;exact again I7 n7
   |cont=>obtain⟨σ7,H7,I7,n7⟩:=q7;exact again I7 n7
   |brk=>obtain⟨σ7,H7,I7,q7⟩:=q7;exact⟨σ7,H7,I7.unpinned,q7⟩
   |ret v=>obtain⟨x7,σ7,H7,I7,r7,q7⟩:=q7;exact⟨x7,σ7,H7,I7.unpinned,r7,q7⟩
end
theorem A1z{lo:Int}{n:Nat}{g:TG}{tb:TS}{D:Ends}{σ:St}{H:Hp}(Pv:Nat ->St ->Hp ->Prop)(h0:Pv 0 σ H)
   (hs:∀i σ H,i<n ->Pv i σ H ->g (.int (lo+i)) σ H fun σ2 H2=>tb {D with nx:=Pv (i+1),ct:=Pv (i+1),bk:=D.nx} σ2 H2) (hd:∀σ H,Pv n σ H ->D.nx σ H):
   ∃ W:Nat ->Nat ->St ->Hp ->Prop,(∃m,W 0 m σ H)/\∀i m σ H,W i m σ H ->
     ((Itr lo n).stop i H/\D.nx σ H)\/((Itr lo n).go i H/\∃N:St ->Hp ->Prop,(∀σ' H',N σ' H' ->∃m',m'<m/\W (i+1) m' σ' H')/\∀x H',(Itr lo n).yld i H x H' ->g x σ H' fun σ2 H2=>tb {D with nx:=N,ct:=N,bk:=D.nx} σ2 H2):=by
 refine⟨fun i m σ H=>m=n-i/\i<=n/\Pv i σ H,⟨n,by simp,Nat.zero_le _,h0⟩,?_⟩
 rintro i m σ H ⟨rfl,hi,p⟩
 by_cases hlt:i<n
 . refine .inr ⟨hlt,Pv (i+1),fun σ' H' p'=>⟨n-(i+1),by omega,rfl,hlt,p'⟩,fun x H' y=>?_⟩
   obtain⟨e,y⟩:=y
   subst e y
   exact hs i σ _ hlt p
 . have e:i=n:=by omega
   subst e
   exact .inl ⟨Nat.le_refl _,hd σ H p⟩
theorem A6p{c:TT}{tb:TS}{D:Ends}{σ:St}{H:Hp}(Pv:St ->Hp ->Prop)(μ:St ->Hp ->Nat)(h0:Pv σ H)
   (hs:∀σ H,Pv σ H ->c σ H fun b H1=>if b=true then tb {D with nx:=fun σ' H'=>Pv σ' H'/\μ σ' H'<μ σ H,ct:=fun σ' H'=>Pv σ' H'/\μ σ' H'<μ σ H,bk:=D.nx} σ H1 else D.nx σ H1)
   (mono:∀σ H Q Q',(∀b H1,Q b H1 ->Q' b H1) ->c σ H Q ->c σ H Q'):B4w c tb D σ H:=by
 refine⟨fun m σ H=>m=μ σ H/\Pv σ H,⟨_,rfl,h0⟩,?_⟩
 rintro m σ H ⟨rfl,p⟩
 refine mono σ H _ _ (fun b H1 q=>?_) (hs σ H p)
 cases b with
 |true=>exact⟨_,fun σ' H' ⟨p',l⟩=>⟨_,l,rfl,p'⟩,q⟩
 |false=>exact q
noncomputable abbrev R2:=V ->V ->Hp ->VK ->Prop
noncomputable def OpR (X:Cx) (f:Value ->Value ->Sem Value) (r:R2):Prop:=
 ∀ (pins:List (Addr×Obj)) (s:Shared) (σ:St) (H:Hp) (x y:V) (v u:Value) (Q:VK),Inv X pins σ H s ->RelV x v ->RelV y u ->r x y H Q ->
   wpAny (model X.prog X.w) X.A (f v u) (EP X pins σ Q) X.xe s
noncomputable def UnR (X:Cx) (f:Value ->Sem Value) (r:V ->Hp ->VK ->Prop):Prop:=
 ∀ (pins:List (Addr×Obj)) (s:Shared) (σ:St) (H:Hp) (x:V) (v:Value) (Q:VK),Inv X pins σ H s ->RelV x v ->r x H Q ->
   wpAny (model X.prog X.w) X.A (f v) (EP X pins σ Q) X.xe s
noncomputable def Y3 (X:Cx) (f:Value) (r:List V ->Hp ->VK ->Prop):Prop:=
 ∀ (pins:List (Addr×Obj)) (s:Shared) (σ:St) (H:Hp) (xs:List V) (us:List Value) (Q:VK),Inv X pins σ H s ->Vals xs us ->r xs H Q ->
   wpAny (model X.prog X.w) X.A (call f us) (EP X pins σ Q) X.xe s
noncomputable def tOp (r:R2) (ta tb:TE):TE:=fun σ H Q=>ta σ H fun x H1=>tb σ H1 fun y H2=>r x y H2 Q
noncomputable def tUn (r:V ->Hp ->VK ->Prop) (ta:TE):TE:=fun σ H Q=>ta σ H fun x H1=>r x H1 Q
noncomputable def rI (C:Int ->Int ->Prop) (g:Int ->Int ->V):R2:=fun x y H Q=>∃i j,x= .int i/\y= .int j/\C i j/\Q (g i j) H
noncomputable def rI0 (g:Int ->Int ->V):R2:=fun x y H Q=>∃i j,x= .int i/\y= .int j/\Q (g i j) H
noncomputable def rU (g:Int ->V):V ->Hp ->VK ->Prop:=fun x H Q=>∃i,x= .int i/\Q (g i) H
section
variable{X:Cx}{a b c:Expr}{ta tb tc:TE}{pos:Pos}
theorem B9s(ha:PE X a ta)(hb:PE X b tb){pins:List (Addr×Obj)}{s:Shared}{σ:St}{H:Hp}{R:V ->V ->Hp ->Prop}(I:Inv X pins σ H s)
   (h:ta σ H fun x H1=>tb σ H1 fun y H2=>R x y H2) {Q:Value ->Shared ->Prop} {f:Value ->Value ->Sem Value}
   (hf:∀v u s2 x y H2,Inv X pins σ H2 s2 ->RelV x v ->RelV y u ->R x y H2 ->wpAny (model X.prog X.w) X.A (f v u) Q X.xe s2):
   wpAny (model X.prog X.w) X.A (eval a X.env) (fun v s₁=>wpAny (model X.prog X.w) X.A (eval b X.env) (fun u s₂=>wpAny (model X.prog X.w) X.A (f v u) Q X.xe s₂) X.xe s₁) X.xe s:=by
 refine thn (ha pins s σ H _ I h) fun v s1 hh_=>?_
 obtain⟨x,H1,I1,r1,q1⟩:=hh_
 refine thn (hb pins s1 σ H1 _ I1 q1) fun u s2 hh_=>?_
 obtain⟨y,H2,I2,r2,q2⟩:=hh_
 exact hf v u s2 x y H2 I2 r1 r2 q2
theorem A8{op:Operator}{r:R2}(ho:OpR X (binaryOp op) r)(ha:PE X a ta)(hb:PE X b tb):PE X (.BinOp a op b pos) (tOp r ta tb):=by
 intro pins s σ H Q I h
 exact wpAny_BinOp (B9s ha hb I h fun v u s2 x y H2 I2 rx ry q=>ho pins s2 σ H2 x y v u Q I2 rx ry q)
theorem A3p{op:UnaryOp}{r:V ->Hp ->VK ->Prop}(ho:UnR X (unaryOp op) r)(ha:PE X a ta):PE X (.UnaryOp op a pos) (tUn r ta):=by
 intro pins s σ H Q I h
 exact UnaryOp_ (thn (ha pins s σ H _ I h) fun v s1 ⟨x,H1,I1,r1,q1⟩=>ho pins s1 σ H1 x v Q I1 r1 q1)
theorem opI{f:Value ->Value ->Sem Value}{C:Int ->Int ->Prop}{g:Int ->Int ->Int}
   (rule:∀(i j:Int) (t u:Tok) (s:Shared) (Q:Value ->Shared ->Prop) (E:Value ->Shared ->Prop),C i j ->Q (.int (g i j) s.toks) {s with toks:=s.toks+1} ->wpAny (model X.prog X.w) X.A (f (.int i t) (.int j u)) Q E s):
   OpR X f (rI C fun i j=> .int (g i j)):=by
 intro pins s σ H x y v u Q I rx ry h
 obtain⟨i,j,rfl,rfl,hc,q⟩:=h
 obtain⟨t,rfl⟩:=rx
 obtain⟨t',rfl⟩:=ry
 exact rule i j t t' s _ _ hc ⟨.int (g i j),H,I.tok _,⟨_,rfl⟩,q⟩
theorem C1k{f:Value ->Value ->Sem Value}{g:Int ->Int ->Int}
   (rule:∀(i j:Int) (t u:Tok) (s:Shared) (Q:Value ->Shared ->Prop) (E:Value ->Shared ->Prop),Q (.int (g i j) s.toks) {s with toks:=s.toks+1} ->wpAny (model X.prog X.w) X.A (f (.int i t) (.int j u)) Q E s):
   OpR X f (rI0 fun i j=> .int (g i j)):=by
 intro pins s σ H x y v u Q I rx ry h
 obtain⟨i,j,rfl,rfl,q⟩:=h
 obtain⟨t,rfl⟩:=rx
 obtain⟨t',rfl⟩:=ry
 exact rule i j t t' s _ _ ⟨.int (g i j),H,I.tok _,⟨_,rfl⟩,q⟩
theorem B6r{f:Value ->Value ->Sem Value}{g:Int ->Int ->Bool}
   (rule:∀(i j:Int) (t u:Tok) (s:Shared) (Q:Value ->Shared ->Prop) (E:Value ->Shared ->Prop),Q (.bool (g i j)) s ->wpAny (model X.prog X.w) X.A (f (.int i t) (.int j u)) Q E s):
   OpR X f (rI0 fun i j=> .bl (g i j)):=by
 intro pins s σ H x y v u Q I rx ry h
 obtain⟨i,j,rfl,rfl,q⟩:=h
 obtain⟨t,rfl⟩:=rx
 obtain⟨t',rfl⟩:=ry
 exact rule i j t t' s _ _ ⟨.bl (g i j),H,I,rfl,q⟩
noncomputable def C2k (i j:Int):Prop:=0<=j/\j<=1000000/\i.natAbs<2^64
noncomputable def CMul (i j:Int):Prop:=(-(2^64)<i/\i<2^64)\/(-(2^64)<j/\j<2^64)
theorem CMul.ok{i j:Int}(h:CMul i j):IntMulOk i j:=by
 rcases h with⟨h1,h2⟩|⟨h1,h2⟩
 . exact .of_left (intBits_le_64 h1 h2)
 . exact .of_right (intBits_le_64 h1 h2)
theorem V1:OpR X (binaryOp .Add) (rI0 fun i j=> .int (i+j)):=C1k fun _ _ _ _ _ _ _ q=>add_int q
theorem V7:OpR X (binaryOp .Sub) (rI0 fun i j=> .int (i-j)):=C1k fun _ _ _ _ _ _ _ q=>sub_int q
theorem D6:OpR X (binaryOp .Mod) (rI (fun _ j=>0<j) fun i j=> .int (i % j)):=opI fun i j _ _ _ _ _ hc q=>by
 have h1:(0:Int)<j:=hc
 exact mod_int' (by omega) (by rw[Int.fmod_eq_emod_of_nonneg i (by omega)];exact q)
theorem B9e:OpR X (binaryOp .Pow) (rI C2k fun i j=> .int (i^j.toNat)):=opI fun _ _ _ _ _ _ _ hc q=>pow_int_small hc.1 hc.2.1 hc.2.2 q
theorem unI{f:Value ->Sem Value}{g:Int ->Int}
   (rule:∀(i:Int) (t:Tok) (s:Shared) (Q:Value ->Shared ->Prop) (E:Value ->Shared ->Prop),Q (.int (g i) s.toks) {s with toks:=s.toks+1} ->wpAny (model X.prog X.w) X.A (f (.int i t)) Q E s):
   UnR X f (rU fun i=> .int (g i)):=by
 intro pins s σ H x v Q I rx h
 obtain⟨i,rfl,q⟩:=h
 obtain⟨t,rfl⟩:=rx
 exact rule i t s _ _ ⟨.int (g i),H,I.tok _,⟨_,rfl⟩,q⟩
theorem A0y:UnR X (unaryOp .USub) (rU fun i=> .int (-i)):=unI fun _ _ _ _ _ q=>neg_int q
end
noncomputable def C2f:V ->V ->Bool
 | .non,.non=>true| .non,.int _=>true| .int _,.non=>true| .non,.bl _=>true| .bl _,.non=>true| .non,.str _=>true| .str _,.non=>true
 | .int _,.int _=>true| .bl _,.bl _=>true| .str _,.str _=>true| .byt _,.byt _=>true
 | .int _,.str _=>true| .str _,.int _=>true| .bl _,.str _=>true| .str _,.bl _=>true
 |_,_=>false
noncomputable def rEq:R2:=fun x y H Q=>C2f x y=true/\Q (.bl (decide (x=y))) H
noncomputable def rNe:R2:=fun x y H Q=>C2f x y=true/\Q (.bl (!decide (x=y))) H
theorem B0t{i j:Int}:decide (V.int i=V.int j)=(i==j):=by
 rw[Bool.eq_iff_iff]
 simp
theorem B4g{i j:Bool}:decide (V.bl i=V.bl j)=(i==j):=by
 rw[Bool.eq_iff_iff]
 simp
theorem B0n{i j:Str}:decide (V.str i=V.str j)=(i==j):=by
 rw[Bool.eq_iff_iff]
 simp
theorem B0r{i j:Array UInt8}:decide (V.byt i=V.byt j)=(i.toList==j.toList):=by
 rw[Bool.eq_iff_iff]
 cases i
 cases j
 simp
section
variable{X:Cx}{a b c:Expr}{ta tb tc:TE}{pos:Pos}
theorem C7{pins:List (Addr×Obj)}{σ:St}{H:Hp}{s:Shared}{Q:VK}{k k':Bool}(I:Inv X pins σ H s)(q:Q (.bl k) H)(e:k=k'):EP X pins σ Q (.bool k') s:=by
 subst e
 exact⟨.bl k,H,I,rfl,q⟩
theorem U1:OpR X (compareOp .Eq) rEq:=by
 intro pins s σ H x y v u Q I rx ry h
 obtain⟨hs,q⟩:=h
 cases x with
 | non=>
   cases rx
   cases y with
   |non=>cases ry;exact PySem.EqNone.eq_none_none (C7 I q (by simp))
   |bl j=>cases ry;exact PySem.EqNone.eq_none_bool (C7 I q (by simp))
   |int j=>obtain⟨t',rfl⟩:=ry;exact PySem.EqNone.eq_none_int (C7 I q (by simp))
   |str j=>obtain⟨t',rfl⟩:=ry;exact PySem.EqNone.eq_none_str (C7 I q (by simp))
   |_=>exact absurd (show false=true from hs) Bool.false_ne_true
 | bl i=>
   cases rx
   cases y with
   |non=>cases ry;exact PySem.EqNone.eq_bool_none (C7 I q (by simp))
   |bl j=>cases ry;exact eq_bool (C7 I q B4g)
   |str j=>obtain⟨t',rfl⟩:=ry;exact PySem.EqMixed.eq_bool_str (C7 I q (by simp))
   |_=>exact absurd (show false=true from hs) Bool.false_ne_true
 | int i=>
   obtain⟨t,rfl⟩:=rx
   cases y with
   |non=>cases ry;exact PySem.EqNone.eq_int_none (C7 I q (by simp))
   |int j=>obtain⟨t',rfl⟩:=ry;exact eq_int (C7 I q B0t)
   |str j=>obtain⟨t',rfl⟩:=ry;exact PySem.EqMixed.eq_int_str (C7 I q (by simp))
   |_=>exact absurd (show false=true from hs) Bool.false_ne_true
 | str i=>
   obtain⟨t,rfl⟩:=rx
   cases y with
   |non=>cases ry;exact PySem.EqNone.eq_str_none (C7 I q (by simp))
   |bl j=>cases ry;exact PySem.EqMixed.eq_str_bool (C7 I q (by simp))
   |int j=>obtain⟨t',rfl⟩:=ry;exact PySem.EqMixed.eq_str_int (C7 I q (by simp))
   |str j=>obtain⟨t',rfl⟩:=ry;exact eq_str (C7 I q B0n)
   |_=>exact absurd (show false=true from hs) Bool.false_ne_true
 | byt i=>
   obtain⟨t,rfl⟩:=rx
   cases y with
   |byt j=>obtain⟨t',rfl⟩:=ry;exact PySem.W.eq_bytes (C7 I q B0r)
   |_=>exact absurd (show false=true from hs) Bool.false_ne_true
 |_=>cases y<;>exact absurd (show false=true from hs) Bool.false_ne_true
theorem A7k:OpR X (compareOp .NotEq) rNe:=by
 intro pins s σ H x y v u Q I rx ry h
 obtain⟨hs,q⟩:=h
 cases x with
 | non=>
   cases rx
   cases y with
   |non=>cases ry;exact PySem.EqNone.ne_none_none (C7 I q (by simp))
   |bl j=>cases ry;exact PySem.EqNone.ne_none_bool (C7 I q (by simp))
   |int j=>obtain⟨t',rfl⟩:=ry;exact PySem.EqNone.ne_none_int (C7 I q (by simp))
   |str j=>obtain⟨t',rfl⟩:=ry;exact PySem.EqNone.ne_none_str (C7 I q (by simp))
   |_=>exact absurd (show false=true from hs) Bool.false_ne_true
 | bl i=>
   cases rx
   cases y with
   |non=>cases ry;exact PySem.EqNone.ne_bool_none (C7 I q (by simp))
   |bl j=>cases ry;exact ne_bool (C7 I q (congrArg not B4g))
   |str j=>obtain⟨t',rfl⟩:=ry;exact PySem.EqMixed.ne_bool_str (C7 I q (by simp))
   |_=>exact absurd (show false=true from hs) Bool.false_ne_true
 | int i=>
   obtain⟨t,rfl⟩:=rx
   cases y with
   |non=>cases ry;exact PySem.EqNone.ne_int_none (C7 I q (by simp))
   |int j=>obtain⟨t',rfl⟩:=ry;exact ne_int (C7 I q (congrArg not B0t))
   |str j=>obtain⟨t',rfl⟩:=ry;exact PySem.EqMixed.ne_int_str (C7 I q (by simp))
   |_=>exact absurd (show false=true from hs) Bool.false_ne_true
 | str i=>
   obtain⟨t,rfl⟩:=rx
   cases y with
   |non=>cases ry;exact PySem.EqNone.ne_str_none (C7 I q (by simp))
   |bl j=>cases ry;exact PySem.EqMixed.ne_str_bool (C7 I q (by simp))
   |int j=>obtain⟨t',rfl⟩:=ry;exact PySem.EqMixed.ne_str_int (C7 I q (by simp))
   |str j=>obtain⟨t',rfl⟩:=ry;exact ne_str (C7 I q (congrArg not B0n))
   |_=>exact absurd (show false=true from hs) Bool.false_ne_true
 | byt i=>
   obtain⟨t,rfl⟩:=rx
   cases y with
   |byt j=>obtain⟨t',rfl⟩:=ry;exact PySem.W.ne_bytes (C7 I q (congrArg not B0r))
   |_=>exact absurd (show false=true from hs) Bool.false_ne_true
 |_=>cases y<;>exact absurd (show false=true from hs) Bool.false_ne_true
theorem A6r:OpR X (compareOp .Lt) (rI0 fun i j=> .bl (decide (i<j))):=B6r fun _ _ _ _ _ _ _ q=>lt_int q
theorem B8e:OpR X (compareOp .LtE) (rI0 fun i j=> .bl (decide (i<=j))):=B6r fun _ _ _ _ _ _ _ q=>le_int q
theorem A4b:OpR X (compareOp .Gt) (rI0 fun i j=> .bl (decide (j<i))):=B6r fun _ _ _ _ _ _ _ q=>gt_int q
theorem B8f:OpR X (compareOp .GtE) (rI0 fun i j=> .bl (decide (j<=i))):=B6r fun _ _ _ _ _ _ _ q=>ge_int q
theorem B6c:OpR X (compareOp .IsNot) (fun x y H Q=>y= .non/\Q (.bl (!decide (x= .non))) H):=by
 intro pins s σ H x y v u Q I rx ry h
 obtain⟨rfl,q⟩:=h
 cases ry
 refine isnot_none_gen (C7 I q ?_)
 cases x<;>first
   |(cases rx;rfl)
   |(obtain⟨t,rfl⟩:=rx;rfl)
theorem B7(b:Expr){op:CmpOp}(h:op≠ .In:=by decide)(h2:op≠ .NotIn:=by decide):behindInMarks op b=false:=by
 have e1:(op==CmpOp.In)=false:=by cases op<;>first|rfl|exact absurd rfl h
 have e2:(op==CmpOp.NotIn)=false:=by cases op<;>first|rfl|exact absurd rfl h2
 cases b<;>simp[behindInMarks,e1,e2]
theorem U0{op:CmpOp}{r:R2}(ho:OpR X (compareOp op) r)(ha:PE X a ta)(hb:PE X b tb)(hm:behindInMarks op b=false):PE X (.Compare a [op] [b] pos) (tOp r ta tb):=by
 intro pins s σ H Q I h
 exact wpAny_Compare1 (B9s ha hb I h fun v u s2 x y H2 I2 rx ry q=>ho pins s2 σ H2 x y v u Q I2 rx ry q) hm
noncomputable def C2h (t:TE):TT:=fun σ H Q=>t σ H fun x H'=>∃k,x= .bl k/\Q k H'
theorem B9{op:CmpOp}{r:R2}(ho:OpR X (compareOp op) r)(ha:PE X a ta)(hb:PE X b tb)(hm:behindInMarks op b=false):PT X (.Compare a [op] [b] pos) (C2h (tOp r ta tb)):=by
 intro pins s σ H Q I h
 refine wpAny_isTrue_Compare1 (thn (ha pins s σ H _ I h) fun v s1 ⟨x,H1,I1,r1,q1⟩=>thn (hb pins s1 σ H1 _ I1 q1) fun u s2 ⟨y,H2,I2,r2,q2⟩=>
   thn (ho pins s2 σ H2 x y v u _ I2 r1 r2 q2) fun c s3 ⟨z,H3,I3,r3,k,e,q3⟩=>?_) hm
 subst e
 cases r3
 exact wpAny_truthy_bool ⟨H3,I3,q3⟩
theorem A3x:(sizeLine:Nat)<2^63:=by rw[sizeLine_eq];decide
theorem B3:OpR X (binaryOp .Add) (fun x y H Q=>∃i j,x= .str i/\y= .str j/\i.length+j.length<=sizeLine/\Q (.str (i++j)) H):=by
 intro pins s σ H x y v u Q I rx ry h
 obtain⟨i,j,rfl,rfl,hz,q⟩:=h
 obtain⟨t,rfl⟩:=rx
 obtain⟨t',rfl⟩:=ry
 exact add_str (fun t' tk=>⟨.str (i++j),H,I.tok _,⟨_,rfl⟩,q⟩) hz
theorem A2k{x:V}{us:List Value}(r:Vals [x] us):∃u,us=[u]/\RelV x u:=by
 cases r with
 |cons r1 r2=>cases r2;exact⟨_,rfl,r1⟩
theorem B4u{x y:V}{us:List Value}(r:Vals [x,y] us):∃u w',us=[u,w']/\RelV x u/\RelV y w':=by
 cases r with
 | cons r1 r2=>
   cases r2 with
   |cons r3 r4=>cases r4;exact⟨_,_,rfl,r1,r3⟩
theorem A7s:Y3 X (.builtin "abs") (fun xs H Q=>∃i,xs=[.int i]/\Q (.int (if i<0 then -i else i)) H):=by
 intro pins s σ H xs us Q I r h
 obtain⟨i,rfl,q⟩:=h
 obtain⟨u,rfl,t,rfl⟩:=A2k r
 exact call_abs_int fun u tk=>⟨.int (if i<0 then -i else i),H,I.tok _,⟨_,rfl⟩,q⟩
theorem B2d(hc:X.calm=true):Y3 X (.builtin "min") (fun xs H Q=>∃i j,xs=[.int i,.int j]/\Q (.int (if j<i then j else i)) H):=by
 intro pins s σ H xs us Q I r h
 obtain⟨i,j,rfl,q⟩:=h
 obtain⟨u,w',rfl,⟨t,rfl⟩,⟨t',rfl⟩⟩:=B4u r
 refine min_two_ints (I.ok.hd hc) fun h' tk k=>⟨_,H,I.kept k,?_,q⟩
 by_cases hj:j<i
 . rw[if_pos hj,if_pos hj];exact⟨_,rfl⟩
 . rw[if_neg hj,if_neg hj];exact⟨_,rfl⟩
theorem A0t:Y3 X (.type "int") (fun xs H Q=>(∃i,xs=[.int i]/\Q (.int i) H)\/∃k,xs=[.bl k]/\Q (.int (if k then 1 else 0)) H):=by
 intro pins s σ H xs us Q I r h
 rcases h with⟨i,rfl,q⟩|⟨k,rfl,q⟩
 . obtain⟨u,rfl,t,rfl⟩:=A2k r
   exact call_int_int ⟨.int i,H,I,⟨_,rfl⟩,q⟩
 . obtain⟨u,rfl,r1⟩:=A2k r
   cases r1
   exact call_int_bool ⟨.int (if k then 1 else 0),H,I.tok _,⟨_,rfl⟩,q⟩
theorem Z1:Y3 X (.type "str") (fun xs H Q=>∃i,xs=[.int i]/\i.natAbs.log2<1920/\Q (.str (toString i)) H):=by
 intro pins s σ H xs us Q I r h
 obtain⟨i,rfl,hz,q⟩:=h
 obtain⟨u,rfl,t,rfl⟩:=A2k r
 exact PySem.P.str_of_int hz ⟨.str _,H,I.tok _,⟨_,rfl⟩,q⟩
end
structure ObjM(h:Heap)(x dx C:Addr)(mA:Str ->Option Value):Prop where
 obj:h.get? x=some (PySem.W.instObj C dx)
 ns:h.Ns1 dx mA
 ne:dx≠x
theorem A5a{h:Heap}{dx:Addr}{mA:Str ->Option Value}(n:h.Ns1 dx mA):∃od,h.get? dx=some od/\∀name,PySem.W.lookIn name od=some (mA name):=by
 obtain⟨o,es,ep,ho,hd,hk,_,hm⟩:=n
 refine⟨o,ho,fun name=>?_⟩
 have e:=hm name
 unfold nsFind findBy at e
 rw[<-Array.find?_toList] at e
 unfold PySem.W.lookIn
 rw[hd]
 dsimp only
 split
 . rename_i y q
   rw[q] at e
   exact congrArg some e
 . rename_i q
   rw[q] at e
   have a:es.toList.any (·.refKey)=false:=by
     rw[List.any_eq_false]
     intro y hy
     obtain⟨z,t,hkey⟩:=hk y (Array.mem_toList_iff.mp hy)
     simp[DictEntry.refKey,hkey]
   have a':¬es.toList.any (·.refKey)=true:=by rw[a];exact Bool.false_ne_true
   rw[if_neg a']
   exact congrArg some e
theorem ObjM.look{h:Heap}{x dx C:Addr}{mA:Str ->Option Value}(I:ObjM h x dx C mA):∃od,PySem.W.InstAt h x (PySem.W.instObj C dx) C (some od)/\∀name,PySem.W.lookIn name od=some (mA name):=
 let⟨od,ho,hl⟩:=A5a I.ns
 ⟨od,⟨I.obj,rfl,rfl,ho⟩,hl⟩
section
variable{prog:Program}{w:World}{A:Around}{E:Value ->Shared ->Prop}{s:Shared}{K:PySem.W.Frag}{x dx C f:Addr}{mA:Str ->Option Value}{name:Str}{v:Value}
theorem B7v{expr:Bool}{Q:Value ->Shared ->Prop}(X:K.In s.heap)(I:ObjM s.heap x dx C mA)(hg:PySem.W.plainGet K C name=true)(hh:PySem.W.hasDictIn K C=true)
   (ha:PySem.W.findIn K (.ref C) name=some none) (hv:mA name=some v) (hv':PySem.W.handedIn v=true) (h:Q v {s with toks:=s.toks+1}):
   wpAny (model prog w) A (getAttr (.ref x) name expr) Q E s:=by
 obtain⟨od,J,hl⟩:=I.look
 exact PySem.W.get_value X J (PySem.W.plainGet_of hg).1 (PySem.W.findObj_own hh ha rfl (by rw[hl,hv])) hv' h
theorem B7g{ns:List Str}{Q:Unit ->Shared ->Prop}(X:K.In s.heap)(I:ObjM s.heap x dx C mA)
   (hs:PySem.W.findIn K (.ref C) "__setattr__"=some (some (.builtin "object.__setattr__"))) (hp:PySem.W.plainOver K C=true) (ht:PySem.W.takerIn K C name=some none) (hh:PySem.W.hasDictIn K C=true)
   (hw:PySem.Within mA ns) (hsz:ns.length<=sizeLine)
   (h:∀h',ObjM h' x dx C (fun y=>if y=name then some v else mA y) ->Heap.SameBut dx s.heap h' ->Q () {s with heap:=h',toks:=s.toks+2}):
   wpAny (model prog w) A (setAttr (.ref x) name v) Q E s:=by
 obtain⟨od,J,hl⟩:=I.look
 refine PySem.W.set_plain X J hs (PySem.W.osa_open (s:={s with toks:=s.toks+1}) (r:=none) X J hp ht fun b=>?_)
 obtain⟨cd,hc,hd'⟩:=PySem.W.any_some hh
 have hx:s.heap.get? x=some ⟨.ref C,some dx,.plain, #[]⟩:=I.obj
 refine wpAny_bind (wpAny_pure (wpAny_bind (wpAny_bind (wpAny_loadPart hx (wpAny_bind (PySem.W.Looks.here (s:={s with toks:=s.toks+1}) (PySem.W.looks_clsIn X hc) ?_))))))
 rw[hd']
 refine wpAny_pure (a:=some dx) (wpAny_bind (wpAny_pure (wpAny_bind ?_)))
 refine wpAny_nsSet1 (s:={s with toks:=s.toks+1}) I.ns fun h' hn2 hs2=>?_
 obtain⟨oD,esD,epD,hoD,hdD,hcD⟩:=hn2.count (PySem.Within.cons name v hw)
 refine wpAny_bind (wpAny_lookBehind hoD (by rw[hdD];exact pastItsLine_dict (Nat.le_trans hcD (by rw[List.length_cons];omega))) ?_)
 exact wpAny_pure (h _ ⟨(hs2.2 _ (Ne.symm I.ne)).trans I.obj,hn2,I.ne⟩ hs2)
theorem B4q{R:Result ->Shared ->Prop}{vs:List Value}{kw:List (Str×Value)}(X:K.In s.heap)(hm:PySem.W.makesIn K C=true)
   (hi:PySem.W.findIn K (.ref C) "__init__"=some (some (.ref f))) (hf:PySem.W.typeIn K (.ref f)=some (.type "function"))
   (h:codeAny (model prog w) (A.under (.builtin "type.__call__" ⟨.ref C::vs,kw⟩)) (.call (.ref f) ⟨.ref (s.heap.objs.size+1)::vs,kw⟩) (PySem.W.InitBack (s.heap.objs.size+1) R)
     {s with heap:=(s.heap.push PySem.W.emptyDict).push (PySem.W.instObj C s.heap.objs.size)}):
   codeAny (model prog w) A (.call (.ref C) ⟨vs,kw⟩) R s:=by
 obtain⟨hh,g,d,t,os⟩:=s
 exact PySem.W.make_core (PySem.W.makes_of X hm) (PySem.W.looks_findIn X hi) (fun self=>PySem.W.bind_fn X self hf) (.inl rfl) h
end
noncomputable def V9 (f:Str) (v:V):List (Str×V) ->List (Str×V)
 | []=>[(f,v)]
 |(g,x)::r=>if g=f then(g,v)::r else(g,x)::V9 f v r
theorem C9(f g:Str)(v:V):∀fs:List (Str×V),(V9 f v fs).lookup g=if g=f then some v else fs.lookup g
 | []=>by
   show List.lookup g [(f,v)]=_
   by_cases h:g=f
   . have hb:(g==f)=true:=beq_iff_eq.mpr h
     simp only[List.lookup,hb,if_pos h]
   . have hb:(g==f)=false:=beq_eq_false_iff_ne.mpr h
     simp only[List.lookup,hb,if_neg h]
 | (k, x)::r=>by
   have ih:=C9 f g v r
   rw[show V9 f v ((k,x)::r)=(if k=f then(k,v)::r else(k,x)::V9 f v r) from rfl]
   by_cases hk:k=f
   . rw[if_pos hk]
     by_cases h:g=k
     . have hb:(g==k)=true:=beq_iff_eq.mpr h
       simp only[List.lookup,hb,if_pos (h.trans hk)]
     . have hb:(g==k)=false:=beq_eq_false_iff_ne.mpr h
       simp only[List.lookup,hb,if_neg (fun e:g=f=>h (e.trans hk.symm))]
   . rw[if_neg hk]
     by_cases h:g=k
     . have hb:(g==k)=true:=beq_iff_eq.mpr h
       simp only[List.lookup,hb,if_neg (fun e:g=f=>hk (h.symm.trans e))]
     . have hb:(g==k)=false:=beq_eq_false_iff_ne.mpr h
       simp only[List.lookup,hb]
       exact ih
theorem A1y(f:Str)(v:V):∀fs:List (Str×V),f∈(V9 f v fs).map (·.1)/\∀g,g∈fs.map (·.1) ->g∈(V9 f v fs).map (·.1)
 | []=>⟨by simp[V9],fun g h=>by simp at h⟩
 | (k, x)::r=>by
   obtain⟨i1,i2⟩:=A1y f v r
   rw[show V9 f v ((k,x)::r)=(if k=f then(k,v)::r else(k,x)::V9 f v r) from rfl]
   by_cases hk:k=f
   . rw[if_pos hk]
     subst hk
     exact⟨by simp,fun g h=>by simpa using h⟩
   . rw[if_neg hk]
     refine⟨?_,fun g h=>?_⟩
     . rw[List.map_cons]
       exact List.mem_cons_of_mem _ i1
     . rw[List.map_cons] at h ⊢
       rcases List.mem_cons.mp h with e|e
       . exact List.mem_cons.mpr (.inl e)
       . exact List.mem_cons_of_mem _ (i2 g e)
theorem A0g(f:Str)(v:V):∀fs:List (Str×V),(V9 f v fs).length<=fs.length+1
 | []=>by simp[V9]
 | (k,x)::r=>by
   have ih:=A0g f v r
   rw[show V9 f v ((k,x)::r)=(if k=f then(k,v)::r else(k,x)::V9 f v r) from rfl]
   by_cases hk:k=f
   . rw[if_pos hk,List.length_cons,List.length_cons];omega
   . rw[if_neg hk,List.length_cons,List.length_cons];omega
theorem RelO.some_of{v:V}{o:Option Value}(r:RelO (some v) o):∃u,o=some u/\RelV v u:=by
 cases o with
 |none=>exact(show False from r).elim
 |some u=>exact⟨u,rfl,r⟩
theorem B2c{v:V}{u:Value}(r:RelV v u):PySem.W.handedIn u=true:=by
 cases v with
 |non=>cases(show u=Value.none from r);rfl
 |bl b=>cases(show u=Value.bool b from r);rfl
 |int i=>obtain⟨t,e⟩:=(show∃t,u=Value.int i t from r);cases e;rfl
 |str x=>obtain⟨t,e⟩:=(show∃t,u=Value.str x t from r);cases e;rfl
 |byt b=>obtain⟨t,e⟩:=(show∃t,u=Value.bytes b t from r);cases e;rfl
 |flt b=>obtain⟨t,e⟩:=(show∃t,u=Value.float b t from r);cases e;rfl
 |ref a=>cases(show u=Value.ref a from r);rfl
 |ty n=>cases(show u=Value.type n from r);rfl
section
variable{P:Program}{w:World}{H H':Hp}{h h':Heap}{a C dx:Addr}{fs fs':List (Str×V)}
theorem A6b(hok:HOk P w H h)(e:H a=some (.ins C dx fs)):∃mA,ObjM h a dx C mA/\(∀f,RelO (fs.lookup f) (mA f))/\PySem.Within mA (fs.map (·.1))/\fs.length<=1000/\H dx=some (.own a):=by
 obtain⟨d,z,ne,ob,mA,n,r,q⟩:=(show ObjOk P w H h a (.ins C dx fs) from hok a _ e)
 exact⟨mA,⟨ob,n,ne⟩,r,q,z,d⟩
end
structure Cls(K:PySem.W.Frag)(C:Addr):Prop where
 pg:PySem.W.plainGet K C Str.empty=true
 hd:PySem.W.hasDictIn K C=true
 po:PySem.W.plainOver K C=true
 sa:PySem.W.findIn K (.ref C) "__setattr__"=some (some (.builtin "object.__setattr__"))
theorem Cls.get{K:PySem.W.Frag}{C:Addr}(c:Cls K C)(f:Str):PySem.W.plainGet K C f=true:=c.pg
noncomputable def NoAttr (K:PySem.W.Frag) (C:Addr) (f:Str):Prop:=PySem.W.findIn K (.ref C) f=some none
theorem NoAttr.taker{K:PySem.W.Frag}{C:Addr}{f:Str}(n:NoAttr K C f):PySem.W.takerIn K C f=some none:=by
 unfold PySem.W.takerIn
 rw[show PySem.W.findIn K (.ref C) f=some none from n]
 rfl
section
variable{X:Cx}{pins:List (Addr×Obj)}{σ:St}{H:Hp}{s:Shared}{a C dx:Addr}{fs:List (Str×V)}{f:Str}{v:V}{A:Around}{E:Value ->Shared ->Prop}
theorem A8q{b:Bool}{Q:Value ->Shared ->Prop}(I:Inv X pins σ H s)(e:H a=some (.ins C dx fs))(c:Cls X.K C)(n:NoAttr X.K C f)(l:fs.lookup f=some v)
   (h:∀u s',Inv X pins σ H s' ->RelV v u ->Q u s'):wpAny (model X.prog X.w) A (getAttr (.ref a) f b) Q E s:=by
 obtain⟨mA,O,r,_,_,_⟩:=A6b I.hok e
 obtain⟨u,hu,ru⟩:=RelO.some_of (v:=v) (o:=mA f) (by rw[<-l];exact r f)
 exact B7v I.kIn O (c.get f) c.hd n hu (B2c ru) (h u _ (I.tok _) ru)
theorem A7w{y:V}{u:Value}{Q:Unit ->Shared ->Prop}(I:Inv X pins σ H s)(e:H a=some (.ins C dx fs))(c:Cls X.K C)(n:NoAttr X.K C f)(hl:fs.length<1000)(ry:RelV y u)
   (h:∀s',Inv X pins σ (upd H a (.ins C dx (V9 f y fs))) s' ->Q () s'):wpAny (model X.prog X.w) A (setAttr (.ref a) f u) Q E s:=by
 obtain⟨mA,O,r,wi,_,ho⟩:=A6b I.hok e
 have hz:(fs.map (·.1)).length<=sizeLine:=by rw[List.length_map,sizeLine_eq];omega
 refine B7g I.kIn O c.sa c.po n.taker c.hd wi hz fun h' O' sb=>h _ ?_
 have hd:∃o,h'.get? dx=some o:=let⟨o,_,_,e',_⟩:=O'.ns;⟨o,e'⟩
 refine I.write (x:=a) (e:=dx) (by rw[e];exact True.intro) (.inr ho) (fun b q hb z=>(sb.2 b hb).trans z) hd ?_
 refine⟨by rw[C8 O.ne];exact ho,?_,O.ne,O'.obj,_,O'.ns,fun g=>?_,fun g hg=>?_⟩
 . have:=A0g f y fs;omega
 . show RelO ((V9 f y fs).lookup g) (if g=f then some u else mA g)
   rw[C9]
   by_cases q:g=f
   . rw[if_pos q,if_pos q];exact ry
   . rw[if_neg q,if_neg q];exact r g
 . by_cases q:g=f
   . rw[q];exact(A1y f y fs).1
   . refine(A1y f y fs).2 g (wi g fun z=>hg ?_)
     show(if g=f then some u else mA g)=none
     rw[if_neg q];exact z
theorem Inv.made(I:Inv X pins σ H s):Inv X pins σ (upd (upd H s.heap.objs.size (.own (s.heap.objs.size+1))) (s.heap.objs.size+1) (.ins C s.heap.objs.size []))
   {s with heap:=(s.heap.push PySem.W.emptyDict).push (PySem.W.instObj C s.heap.objs.size)}:=by
 have e1:(s.heap.push PySem.W.emptyDict).get? s.heap.objs.size=some PySem.W.emptyDict:=Heap.get?_push_size s.heap rfl
 have e2:((s.heap.push PySem.W.emptyDict).push (PySem.W.instObj C s.heap.objs.size)).get? (s.heap.objs.size+1)=some (PySem.W.instObj C s.heap.objs.size):=by
   have:=Heap.get?_push_size (s.heap.push PySem.W.emptyDict) (o:=PySem.W.instObj C s.heap.objs.size) rfl
   rwa[Heap.size_push] at this
 have e3:(s.heap.push PySem.W.emptyDict).Ns s.heap.objs.size (fun _=>none):=⟨PySem.W.emptyDict, #[],_,e1,rfl,(fun e he=>absurd he (by simp)),fun _=>rfl⟩
 have I1:=I.laid (a:=s.heap.objs.size) (o:= .own (s.heap.objs.size+1)) (h':=s.heap.push PySem.W.emptyDict) (t':=s.toks) (fun b u q=>Heap.get?_push_of_some _ q) (Nat.le_refl _) ⟨_,e1⟩
 refine I1.laid (a:=s.heap.objs.size+1) (o:= .ins C s.heap.objs.size []) (t':=s.toks) (fun b u q=>Heap.get?_push_of_some _ q) (Nat.le_of_eq (Heap.size_push _ _)) ?_
 have ne:s.heap.objs.size≠s.heap.objs.size+1:=Nat.ne_of_lt (Nat.lt_succ_self _)
 refine⟨by rw[C8 ne,A9],Nat.zero_le _,ne,e2,fun _=>none,(Heap.Ns1.of_empty e3).at fun o q=>Heap.get?_push_of_some _ q,fun _=>True.intro,fun y hy=>absurd rfl hy⟩
theorem B7e{prog:Program}{w:World}{env:Env}{e:Expr}{f:Str}{pos:Pos}{s:Shared}{Q:Value ->Shared ->Prop}(hb:attributeBase e f env (eval e env)=eval e env)
   (h:wpAny (model prog w) A (eval e env) (fun o s₁=>wpAny (model prog w) A (getAttr o f true) Q E s₁) E s):wpAny (model prog w) A (eval (.Attribute e f pos) env) Q E s:=
 Attribute_any_ h (by rw[arm_eval_Attribute,hb])
end
noncomputable def C2q (K:PySem.W.Frag) (ta:TE) (f:Str):TE:=fun σ H Q=>ta σ H fun x H1=>∃a C dx fs v,x= .ref a/\H1 a=some (.ins C dx fs)/\Cls K C/\NoAttr K C f/\fs.lookup f=some v/\Q v H1
noncomputable def C2s (K:PySem.W.Frag) (ta tv:TE) (f:Str):TS:=fun D σ H=>tv σ H fun y H1=>ta σ H1 fun x H2=>∃a C dx fs,x= .ref a/\H2 a=some (.ins C dx fs)/\Cls K C/\NoAttr K C f/\fs.length<1000/\
 D.nx σ (upd H2 a (.ins C dx (V9 f y fs)))
section
variable{X:Cx}{o e value:Expr}{f:Str}{pos pos' tpos:Pos}{ta tv:TE}
theorem G9(he:PE X e ta)(hb:attributeBase e f X.env (eval e X.env)=eval e X.env):PE X (.Attribute e f pos) (C2q X.K ta f):=by
 intro pins s σ H Q I h
 refine B7e hb (thn (he pins s σ H _ I h) fun u s1 hh_=>?_)
 obtain⟨x,H1,I1,rx,a,C,dx,fs,v,ex,ea,c,n,l,q⟩:=hh_
 subst ex
 obtain rfl:u=Value.ref a:=rx
 exact A8q I1 ea c n l fun u' s2 I2 ru=>⟨v,H1,I2,ru,q⟩
theorem A5f(ha:PE X o ta)(hv:PE X value tv)(hs:swapsWith value (some (.Attribute o f pos')) pos.line X.env=pure false):PS X (.Assign [.Attribute o f pos'] value pos) (C2s X.K ta tv f):=by
 intro pins s σ H D I h
 refine plainObj_wpAny_Assign_Attribute (thn (hv pins s σ H _ I h) fun u s1 ⟨y,H1,I1,ry,q⟩=>thn (ha pins s1 σ H1 _ I1 q) fun ov s2 hh_=>?_) hs
 obtain⟨x,H2,I2,rx,a,C,dx,fs,ex,ea,c,n,l,q2⟩:=hh_
 subst ex
 obtain rfl:ov=Value.ref a:=rx
 exact A7w I2 ea c n l ry fun s3 I3=>⟨σ,_,I3,q2⟩
end
section
variable{X:Cx}{pins:List (Addr×Obj)}{σ:St}{H:Hp}{s:Shared}{A:Around}{E:Value ->Shared ->Prop}{Q:Value ->Shared ->Prop}{c:Value}{b:Bool}
inductive TyOf(K:PySem.W.Frag)(H:Hp):V ->Value ->Prop where
 |non:TyOf K H .non (.type "NoneType")
 |bl (x:Bool):TyOf K H (.bl x) (.type "bool")
 |int (i:Int):TyOf K H (.int i) (.type "int")
 |str (x:Str):TyOf K H (.str x) (.type "str")
 |flt (x:UInt64):TyOf K H (.flt x) (.type "float")
 |lst {a:Addr} {xs:List V} (e:H a=some (.lst xs)):TyOf K H (.ref a) (.type "list")
 |frz {a:Addr} {o:Obj} {xs:List V} (e:H a=some (.frz o (.lst xs))):TyOf K H (.ref a) (.type "list")
 |tup {a:Addr} {xs:List V} (e:H a=some (.tup xs)):TyOf K H (.ref a) (.type "tuple")
 |dK {a:Addr} {kvs:List (Key×V)} (e:H a=some (.dK kvs)):TyOf K H (.ref a) (.type "dict")
 |dT {a:Addr} {kvs:List (List Key×V)} (e:H a=some (.dT kvs)):TyOf K H (.ref a) (.type "dict")
 |ins {a C dx:Addr} {fs:List (Str×V)} (e:H a=some (.ins C dx fs)) (cl:Cls K C) (ha:PySem.W.findIn K (.ref C) "__class__"=some (some (.builtin "object.__class__")))
     (hn:PySem.W.specialIn K (.builtin "object.__class__") "__get__"=some (some (.builtin "getset_descriptor.__get__"))) (htk:PySem.W.takesIn K (.builtin "object.__class__")=some true)
     (hm:PySem.W.mroIn K C (.type "object")=some true):TyOf K H (.ref a) (.ref C)
theorem B1j{x:V}{u t:Value}(I:Inv X pins σ H s)(rx:RelV x u)(ty:TyOf X.K H x t)(e:PySem.W.kitOne X.K t c=some b)(h:∀tk,Q (.bool b) {s with toks:=tk}):
   wpAny (model X.prog X.w) A (call (.builtin "isinstance") [u,c]) Q E s:=by
 cases ty with
 |non=>cases(show u=Value.none from rx);exact PySem.W.kia_one PySem.W.kitx_none I.kIn True.intro e (fun z=>nomatch z) h
 |bl y=>cases(show u=Value.bool y from rx);exact PySem.W.kia_one PySem.W.kitx_bool I.kIn True.intro e (fun z=>nomatch z) h
 |int i=>obtain⟨t,q⟩:=(show∃t,u=Value.int i t from rx);cases q;exact PySem.W.kia_one PySem.W.kitx_int I.kIn True.intro e (fun z=>nomatch z) h
 |str y=>obtain⟨t,q⟩:=(show∃t,u=Value.str y t from rx);cases q;exact PySem.W.kia_one PySem.W.kitx_str I.kIn True.intro e (fun z=>nomatch z) h
 |flt y=>obtain⟨t,q⟩:=(show∃t,u=Value.float y t from rx);cases q;exact PySem.W.kia_one PySem.W.kitx_float I.kIn True.intro e (fun z=>nomatch z) h
 | @lst a xs ea=>
   cases(show u=Value.ref a from rx)
   obtain⟨_,_,n,_,h1⟩:=(show ObjOk X.prog X.w H s.heap a (.lst xs) from I.hok a _ ea)
   exact PySem.W.kia_one PySem.W.kitx_list I.kIn ⟨_,h1,rfl⟩ e (fun z=>nomatch z) h
 | @frz a ob xs ea=>
   cases(show u=Value.ref a from rx)
   obtain⟨_,_,_,n,_,h1⟩:=(show ObjOk X.prog X.w H s.heap a (.frz ob (.lst xs)) from I.hok a _ ea)
   exact PySem.W.kia_one PySem.W.kitx_list I.kIn ⟨_,h1,rfl⟩ e (fun z=>nomatch z) h
 | @tup a xs ea=>
   cases(show u=Value.ref a from rx)
   obtain⟨_,_,_,p⟩:=(show ObjOk X.prog X.w H s.heap a (.tup xs) from I.hok a _ ea)
   obtain⟨o,h1,h2,_⟩:=p
   exact PySem.W.kia_one PySem.W.kitx_tuple I.kIn ⟨o,h1,h2⟩ e (fun z=>nomatch z) h
 | @dK a kvs ea=>
   cases(show u=Value.ref a from rx)
   obtain⟨_,_,vs,_,p⟩:=(show ObjOk X.prog X.w H s.heap a (.dK kvs) from I.hok a _ ea)
   obtain⟨o,es,ep,h1,h2,_⟩:=p
   exact PySem.W.kia_one PySem.W.kitx_dict I.kIn ⟨o,h1,h2.1⟩ e (fun z=>nomatch z) h
 | @dT a kvs ea=>
   cases(show u=Value.ref a from rx)
   obtain⟨_,_,xs,_,o,es,ep,h1,h2,_⟩:=(show ObjOk X.prog X.w H s.heap a (.dT kvs) from I.hok a _ ea)
   exact PySem.W.kia_one PySem.W.kitx_dict I.kIn ⟨o,h1,h2.1⟩ e (fun z=>nomatch z) h
 | @ins a C dx fs ea cl ha hn htk hm=>
   cases(show u=Value.ref a from rx)
   obtain⟨mA,O,_⟩:=A6b I.hok ea
   obtain⟨od,J,_⟩:=O.look
   exact PySem.W.kia_one (PySem.W.kitx_own (cl.get _) cl.hd ha hn htk hm) I.kIn J e (fun z=>nomatch z) h
end
structure Room(k:Nat)(A:Around):Prop where
 hd:A.handled=none
 dp:A.depth+3*k+5<recursionLimit
 un:A.units+16*k+200<cLine
theorem Room.mono{j k:Nat}{A:Around}(r:Room k A)(h:j<=k):Room j A:=⟨r.hd,by have:=r.dp;omega,by have:=r.un;omega⟩
theorem Room.deeper{k:Nat}{A:Around}(r:Room (k+1) A)(env:Env):Room k (A.deeper env):=
 ⟨r.hd,by have:=r.dp;show A.depth+1+3*k+5<_;omega,by have:=r.un;show A.units+3+16*k+200<_;omega⟩
theorem A8y{A:Around}{C:Addr}{us:List Value}{kw:List (Str×Value)}:(A.under (.builtin "type.__call__" ⟨.ref C::us,kw⟩)).depth=A.depth+1:=by
 first|rfl|simp[Around.under,Code.weight,Code.isCreation,Code.isGuard,Code.isCaller,Code.frames,Code.isFrame,guardIds]
theorem A8d{A:Around}{C:Addr}{us:List Value}{kw:List (Str×Value)}:(A.under (.builtin "type.__call__" ⟨.ref C::us,kw⟩)).units=A.units+1:=by
 first|rfl|simp[Around.under,Code.cUnits,Code.frames,Code.isFrame]
theorem Room.make{k:Nat}{A:Around}(r:Room (k+1) A)(C:Addr)(us:List Value)(kw:List (Str×Value)):Room k (A.under (.builtin "type.__call__" ⟨.ref C::us,kw⟩)):=
 ⟨r.hd,by have:=r.dp;rw[A8y];omega,by have:=r.un;rw[A8d];omega⟩
theorem Room.depth{k:Nat}{A:Around}(r:Room k A):A.depth<recursionLimit:=by have:=r.dp;omega
theorem Room.units{k:Nat}{A:Around}(r:Room k A):A.units+64<cLine:=by have:=r.un;omega
noncomputable def B3n:TA:=fun _ H Q=>Q [] H
noncomputable def A6m (ta:TE) (tr:TA):TA:=fun σ H Q=>ta σ H fun x H1=>tr σ H1 fun xs H2=>Q (x::xs) H2
section
variable{X:Cx}{e:Expr}{es:List Expr}{te:TE}{t:TA}{pos:Pos}
theorem A4:PA X [] B3n:=fun _ _ _ _ H Q I h=>Calls.spliced_nil ⟨[],H,I,.nil,h⟩
theorem A0(ha:PE X e te)(hr:PA X es t)(hs:starEach (e::es) X.env=(false,eval e X.env)::starEach es X.env:=by rfl):PA X (e::es) (A6m te t):=by
 intro pos pins s σ H Q I h
 rw[hs]
 show wpAny _ _ (spliced ((false,eval e X.env)::backTo pos (starEach es X.env))) _ _ s
 refine Calls.spliced_cons (thn (ha pins s σ H _ I h) fun u s1 hh_=>?_)
 obtain⟨x,H1,I1,r1,q1⟩:=hh_
 exact thn (hr pos pins s1 σ H1 _ I1 q1) fun us s2 ⟨xs,H2,I2,r2,q2⟩=>⟨x::xs,H2,I2,.cons r1 r2,q2⟩
noncomputable def C2v (t:TA):TE:=fun σ H Q=>t σ H fun xs H1=>xs.length<=sizeLine/\∀p,H1 p=none ->Q (.ref p) (upd H1 p (.tup xs))
noncomputable def C2p (t:TA):TE:=fun σ H Q=>t σ H fun xs H1=>xs.length<=sizeLine/\∀p,H1 p=none ->Q (.ref p) (upd H1 p (.lst xs))
theorem U9{x1}(h:PA X es t):PE X (.Tuple es x1 pos) (C2v t):=by
 intro pins s σ H Q I hq
 refine wpAny_Tuple_spliced (thn (h pos pins s σ H _ I hq) fun us s1 ⟨xs,H1,I1,r,z,q⟩=>⟨by rw[<-r.length];exact z,?_⟩)
 have hf:H1 s1.heap.objs.size=none:=I1.hok.fresh (Nat.le_refl _)
 refine⟨.ref s1.heap.objs.size,upd H1 s1.heap.objs.size (.tup xs),I1.laid (t':=s1.toks) (fun b u e=>Heap.get?_push_of_some _ e) (Nat.le_refl _) ?_,rfl,q _ hf⟩
 exact⟨z,us,r,⟨_,Heap.get?_push_size _ rfl,rfl,_,rfl⟩⟩
theorem Y5(h:PA X es t):PE X (.List es pos) (C2p t):=by
 intro pins s σ H Q I hq
 refine wpAny_List_spliced (thn (h pos pins s σ H _ I hq) fun us s1 ⟨xs,H1,I1,r,z,q⟩=>⟨by rw[<-r.length];exact z,?_⟩)
 have hf:H1 s1.heap.objs.size=none:=I1.hok.fresh (Nat.le_refl _)
 refine⟨.ref s1.heap.objs.size,upd H1 s1.heap.objs.size (.lst xs),I1.laid (t':=s1.toks) (fun b u e=>Heap.get?_push_of_some _ e) (Nat.le_refl _) ?_,rfl,q _ hf⟩
 exact⟨z,us,0,r,Heap.get?_push_size _ rfl⟩
end
noncomputable abbrev Sp:=List V ->Hp ->VK ->XK ->Prop
noncomputable abbrev CXT:=List Env ->Hp ->Shared ->XK ->Value ->Shared ->Prop
structure Env0(P:Program)(w:World)(K:PySem.W.Frag)(mg:Str ->Option Value)(base:Heap)(A:Around)(outer:List Env)(s:Shared)(H:Hp):Prop where
 frames:A.frames=some outer
 mod:Mod K mg base
 bs:∀b o,base.get? b=some o ->s.heap.get? b=some o/\H b=none
 bsz:base.objs.size<=s.heap.objs.size
 funs:s.heap.FunFrames base outer
 frf:∀b∈frs outer,H b=none
 hok:HOk P w H s.heap
 bare:AllBare s.gens
noncomputable def CE (outer:List Env) (P:Program) (w:World) (H:Hp) (s:Shared) (Q:VK) (u:Value) (s':Shared):Prop:=
 ∃v H',s'.os=s.os/\AllBare s'.gens/\Un (frs outer) [] H H' s.heap s'.heap/\HOk P w H' s'.heap/\RelV v u/\Q v H'
noncomputable def CR (CX:CXT) (outer:List Env) (P:Program) (w:World) (H:Hp) (s:Shared) (Q:VK) (E:XK) (r:Result) (s':Shared):Prop:=
 match r with
 | .ok (.ret u)=>CE outer P w H s Q u s'
 | .ok _=>False
 | .error e=>CX outer H s E e s'
structure FnOk(P:Program)(w:World)(K:PySem.W.Frag)(mg:Str ->Option Value)(base:Heap)(CX:CXT)(k:Nat)(f:Addr)(fd:FuncData)(ps:List Str)(sp:Sp):Prop where
 len:∀vs H Q E,sp vs H Q E ->vs.length=ps.length
 run:∀(A:Around) (outer:List Env) (s:Shared) (H:Hp) (args:Args) (us:List Value) (vs:List V) (Q:VK) (E:XK),Room k A ->Env0 P w K mg base A outer s H ->BindsTo s fd args (ps.zip us) ->Vals vs us ->sp vs H Q E ->
   codeAny (model P w) A (.call (.ref f) args) (CR CX outer P w H s Q E) s
theorem FnOk.mono{P:Program}{w:World}{K:PySem.W.Frag}{mg:Str ->Option Value}{base:Heap}{CX:CXT}{j k:Nat}{f:Addr}{fd:FuncData}{ps:List Str}{sp:Sp}(F:FnOk P w K mg base CX j f fd ps sp)(h:j<=k):
   FnOk P w K mg base CX k f fd ps sp:=⟨F.len,fun A outer s H args us vs Q E hr=>F.run A outer s H args us vs Q E (hr.mono h)⟩
theorem Env0.make{P:Program}{w:World}{K:PySem.W.Frag}{mg:Str ->Option Value}{base:Heap}{A:Around}{outer:List Env}{s:Shared}{H:Hp}(e:Env0 P w K mg base A outer s H)(C:Addr)(us:List Value)(kw:List (Str×Value)):
   Env0 P w K mg base (A.under (.builtin "type.__call__" ⟨.ref C::us,kw⟩)) outer s H:=⟨by first|exact e.frames|(simpa[Around.under,Code.envs,Code.isFrame,pushEnvs] using e.frames),e.mod,e.bs,e.bsz,e.funs,e.frf,e.hok,e.bare⟩
section
variable{X:Cx}{pins:List (Addr×Obj)}{σ:St}{H:Hp}{s s':Shared}
theorem Inv.env0(I:Inv X pins σ H s):Env0 X.prog X.w X.K X.mg X.base X.A X.stack s H:=
 ⟨I.ok.frames,I.ok.mod,I.bs,Nat.le_trans I.ok.bsz I.sz,I.stack,I.stkFree,I.hok,I.bare⟩
theorem Inv.after{Q:VK}{u:Value}(I:Inv X pins σ H s)(h:CE X.stack X.prog X.w H s Q u s'):EP X pins σ Q u s':=by
 obtain⟨v,H',os,bare,un,hok,r,q⟩:=h
 obtain⟨hh,g,d,t,os'⟩:=s'
 obtain rfl:os'=s.os:=os
 exact⟨v,H',I.call (h':=hh) (g':=g) (d':=d) (t':=t) (ch:=[]) un hok bare (fun b z=>absurd z (by simp)),r,q⟩
end
noncomputable def C2j (C:Addr) (sp:Sp) (dvs:List V) (E:XK) (t:TA):TE:=fun σ H Q=>t σ H fun vs H1=>∀x dx,H1 x=none ->H1 dx=none ->dx≠x ->
 sp (.ref x::(vs++dvs)) (upd (upd H1 dx (.own x)) x (.ins C dx [])) (fun v H2=>v= .non/\Q (.ref x) H2) E
noncomputable def Binds (K:PySem.W.Frag) (fd:FuncData) (ps:List Str) (ds:List Value):Prop:=
 ∀(s:Shared) (us:List Value),K.In s.heap ->(us++ds).length=ps.length ->BindsTo s fd ⟨us,[]⟩ (ps.zip (us++ds))
theorem Binds.all{K:PySem.W.Frag}{fd:FuncData}{ps:List Str}(h:∀us:List Value,us.length=ps.length ->bindArgs fd ⟨us,[]⟩=pure (ps.zip us)):Binds K fd ps []:=fun s us _ hl=>by
 rw[List.append_nil] at hl ⊢
 exact .of_eq (h us hl)
noncomputable def A8g (CX:CXT) (X:Cx) (E:XK):Prop:=∀(pins:List (Addr×Obj)) (σ:St) (H:Hp) (s:Shared) (e:Value) (s':Shared),Inv X pins σ H s ->CX X.stack H s E e s' ->X.xe e s'
section
variable{X:Cx}{CX:CXT}{k:Nat}{f C:Addr}{fd:FuncData}{ps:List Str}{sp:Sp}{dvs:List V}{ds:List Value}{E:XK}{x m:Str}{p pos apos:Pos}{e o:Expr}{es:List Expr}{ta:TE}{t:TA}
structure Mk(K:PySem.W.Frag)(C f:Addr):Prop where
 makes:PySem.W.makesIn K C=true
 init:PySem.W.findIn K (.ref C) "__init__"=some (some (.ref f))
 fn:PySem.W.isFn K (.ref f)=true
 kp:PySem.W.keepIn K (.ref C)=true
theorem B3y{pins:List (Addr×Obj)}{σ:St}{H:Hp}{s:Shared}{Q:VK}{us:List Value}{vs:List V}(M:Mk X.K C f)(F:FnOk X.prog X.w X.K X.mg X.base CX k f fd ps sp)(hr:Room (k+1) X.A)(hb:Binds X.K fd ps ds)(hd:Vals dvs ds)
   (hx:A8g CX X E) (I:Inv X pins σ H s) (r:Vals vs us)
   (h:∀x dx,H x=none ->H dx=none ->dx≠x ->sp (.ref x::(vs++dvs)) (upd (upd H dx (.own x)) x (.ins C dx [])) (fun v H2=>v= .non/\Q (.ref x) H2) E):
   wpAny (model X.prog X.w) X.A (call (.ref C) us) (EP X pins σ Q) X.xe s:=by
 have hq:=h (s.heap.objs.size+1) s.heap.objs.size (I.hok.fresh (Nat.le_succ _)) (I.hok.fresh (Nat.le_refl _)) (Nat.ne_of_lt (Nat.lt_succ_self _))
 have I2:=Inv.made (C:=C) I
 have r2:Vals (V.ref (s.heap.objs.size+1)::(vs++dvs)) (Value.ref (s.heap.objs.size+1)::(us++ds)):= .cons rfl (r.append hd)
 have hl:(Value.ref (s.heap.objs.size+1)::us++ds).length=ps.length:=by
   have e:=r2.length
   rw[F.len _ _ _ _ hq] at e
   exact e.symm
 refine wpAny_call (B4q (f:=f) I.kIn M.makes M.init (beq_iff_eq.mp M.fn) (codeAny_mono (F.run _ X.stack _ _ ⟨Value.ref (s.heap.objs.size+1)::us,[]⟩ (Value.ref (s.heap.objs.size+1)::(us++ds)) _ _ E (hr.make C us [])
   (I2.env0.make C us []) (hb _ (Value.ref (s.heap.objs.size+1)::us) I2.kIn hl) r2 hq) fun r s' hq'=>?_))
 cases r with
 |error e=>exact hx pins σ _ _ e s' I2 hq'
 | ok fl=>
   cases fl with
   | ret u=>
     obtain⟨v,H',I3,rv,ev,q3⟩:=I2.after hq'
     subst ev
     exact⟨rv,⟨V.ref (s.heap.objs.size+1),H',I3,rfl,q3⟩⟩
   |next=>exact False.elim hq'
   |brk=>exact False.elim hq'
   |cont=>exact False.elim hq'
theorem A5m(M:Mk X.K C f)(F:FnOk X.prog X.w X.K X.mg X.base CX k f fd ps sp)(hr:Room (k+1) X.A)(hg:Gl X x)(hm:X.mg x=some (.ref C))(hb:Binds X.K fd ps ds)(hd:Vals dvs ds)(hx:A8g CX X E)
   (ha:PA X (e::es) t) (hdb:(x==("__debug__":Str))=false:=by decide) (he:starEach (e::es) X.env=(false,eval e X.env)::starEach es X.env:=by rfl) (hpl:(backTo pos (starEach es X.env)).any (·.1)=false:=by rfl):
   PE X (.Call (.Name x p) (e::es) [] pos) (C2j C sp dvs E t):=by
 intro pins s σ H Q I h
 refine wpAny_Call_Name_kw (A0r I hg hm ?_ hdb)
 refine PySem.W.callWith_K (h₀:=X.base) I.ok.mod.kin M.kp (thn (ha pos pins s σ H _ I h) fun us s1 ⟨vs,H1,I1,r,q⟩=>⟨I1.kIn,?_⟩) he hpl
 exact B3y M F hr hb hd hx I1 r q
end
section
variable{X:Cx}{CX:CXT}{k:Nat}{f C:Addr}{fd:FuncData}{ps ks:List Str}{sp:Sp}{E:XK}{x m:Str}{p pos apos kpos:Pos}{e o:Expr}{es:List Expr}{kws:List Keyword}{te ta:TE}{t tk:TA}{nm:Option Str}
variable{g:List Value ->List Value ->List Value}{gV:List V ->List V ->List V}
end
structure FnScope(N P:List Str)(sc:Scope):Prop where
 kind:sc.kind= .function
 co:sc.isCoroutine=false
 gen:sc.isGenerator=false
 nd:N.Nodup
 pre:N.take P.length=P
 par:∀x∈P,sc.names.lookup x=some .local\/sc.names.lookup x=some .cell
 nofree:∀y∈sc.names,y.2≠ .free
theorem A4s{kindOf:Str ->Option NameKind}{x:Str}:∀{binds:List (Str×Value)} {m:Str ->Option Value},(∀v,(x,v) ∉ binds) ->bindL kindOf binds m x=m x
 | [],_,_=>rfl
 | (n,v)::r,m,h=>by
   unfold bindL
   rw[A4s fun w hw=>h w (List.mem_cons_of_mem _ hw)]
   split
   . have:x≠n:=by rintro rfl;exact h v List.mem_cons_self
     simp[this]
   . rfl
theorem A5b{kindOf:Str ->Option NameKind}{x:Str}:∀{binds:List (Str×Value)} {m:Str ->Option Value},(∀v,(x,v) ∉ binds) ->bindC kindOf binds m x=m x
 | [],_,_=>rfl
 | (n,v)::r,m,h=>by
   unfold bindC
   rw[A5b fun w hw=>h w (List.mem_cons_of_mem _ hw)]
   split
   . rfl
   . have:x≠n:=by rintro rfl;exact h v List.mem_cons_self
     simp[this]
theorem A4p{kindOf:Str ->Option NameKind}{x:Str}{v:Value}:∀{P:List Str} {vs:List Value} {i:Nat} {m:Str ->Option Value},P.Nodup ->P[i]?=some x ->vs[i]?=some v ->kindOf x=some .local ->
   bindL kindOf (P.zip vs) m x=some v
 | [],_,_,_,_,h,_,_=>by simp at h
 |_::_,[],_,_,_,_,h,_=>by simp at h
 | p::P,w::vs,0,m,nd,h1,h2,hk=>by
   simp at h1 h2;subst h1;subst h2
   show bindL kindOf ((p,w)::P.zip vs) m p=_
   unfold bindL
   rw[A4s fun v hv=>(List.nodup_cons.mp nd).1 (List.of_mem_zip hv).1,if_pos hk]
   simp
 | p::P,w::vs,i+1,m,nd,h1,h2,hk=>by
   show bindL kindOf ((p,w)::P.zip vs) m x=_
   unfold bindL
   exact A4p (i:=i) (List.nodup_cons.mp nd).2 (by simpa using h1) (by simpa using h2) hk
theorem A4z{kindOf:Str ->Option NameKind}{x:Str}{v:Value}:∀{P:List Str} {vs:List Value} {i:Nat} {m:Str ->Option Value},P.Nodup ->P[i]?=some x ->vs[i]?=some v ->kindOf x≠some .local ->
   bindC kindOf (P.zip vs) m x=some v
 | [],_,_,_,_,h,_,_=>by simp at h
 |_::_,[],_,_,_,_,h,_=>by simp at h
 | p::P,w::vs,0,m,nd,h1,h2,hk=>by
   simp at h1 h2;subst h1;subst h2
   show bindC kindOf ((p,w)::P.zip vs) m p=_
   unfold bindC
   rw[A5b fun v hv=>(List.nodup_cons.mp nd).1 (List.of_mem_zip hv).1,if_neg hk]
   simp
 | p::P,w::vs,i+1,m,nd,h1,h2,hk=>by
   show bindC kindOf ((p,w)::P.zip vs) m x=_
   unfold bindC
   exact A4z (i:=i) (List.nodup_cons.mp nd).2 (by simpa using h1) (by simpa using h2) hk
noncomputable def A1d (N:List Str) (vs:List V):St:=vs.map some++List.replicate (N.length-vs.length) none
noncomputable def A3s (CX:CXT) (P:Program) (w:World) (K:PySem.W.Frag) (mg:Str ->Option Value) (base:Heap) (N:List Str) (qual:Str) (scope:Scope) (f:Addr) (cd:Value) (A:Around) (outer:List Env) (s:Shared) (H:Hp) (E:XK):Cx where
 prog:=P
 w:=w
 K:=K
 mg:=mg
 base:=base
 A:=A.deeper (envOfC qual scope s.heap.objs.size f cd)
 N:=N
 s₀:=s
 H₀:=H
 env:=envOfC qual scope s.heap.objs.size f cd
 outer:=outer
 stack:=envOfC qual scope s.heap.objs.size f cd::outer
 ex:=[]
 calm:=true
 fn:=fun _=>true
 pn:=[]
 xe:=fun e s'=>wpAny (model P w) (A.deeper (envOfC qual scope s.heap.objs.size f cd)) (leaving (envOfC qual scope s.heap.objs.size f cd) e) (fun _ s''=>CX outer H s E e s'') (fun e' s''=>CX outer H s E e' s'') s'
theorem A6k{sc:Scope}{n:Nat}{x:Str}(h:sc.names.lookup x=some .cell):∃c,(cellsFrom n sc.names []).lookup x=some c:=by
 have q:=PySem.W.cellsFrom_some sc.names n [] (.inl h)
 exact Option.isSome_iff_exists.mp q
theorem B2b{CX:CXT}{P:Program}{w:World}{K:PySem.W.Frag}{mg:Str ->Option Value}{base:Heap}{N ps:List Str}{qual:Str}{scope:Scope}{f:Addr}{cd:Value}{A:Around}{outer:List Env}{s s1:Shared}{H:Hp}{E:XK}{us:List Value}{vs:List V}
   (S:FnScope N ps scope) (hd:A.handled=none) (e0:Env0 P w K mg base A outer s H) (hl:vs.length=ps.length) (r:Vals vs us)
   (x:InCallC s s.heap.objs.size (bindL (envOfC qual scope s.heap.objs.size f cd).kindOf (ps.zip us) fun _=>none) (cellsFrom (s.heap.objs.size+1) scope.names []) (bindC (envOfC qual scope s.heap.objs.size f cd).kindOf (ps.zip us) fun _=>none) s1):
   Inv (A3s CX P w K mg base N qual scope f cd A outer s H E) [] (A1d N vs) H s1:=by
 have hpl:ps.length<=N.length:=by have:=congrArg List.length S.pre;rw[List.length_take] at this;omega
 obtain⟨h1,tk,rfl,hk⟩:=x.done
 have noA:∀b:Addr,b ∉ (A3s CX P w K mg base N qual scope f cd A outer s H E).ex:=fun b z=>absurd (show b∈([]:List Addr) from z) (by simp)
 refine⟨⟨e0.mod,S.kind,rfl,rfl,Nat.le_refl _,fun y z c h1 h2=>?_,fun y hy=>?_,fun y c _ h=>?_,fun _=>hd,Around.frames_deeper e0.frames,.inr ⟨rfl,rfl⟩,fun b z=>absurd z (noA b),e0.bs,e0.bsz,fun b _ _=>noA b,fun b z=>absurd z (noA b),e0.funs,e0.frf⟩,
   rfl,e0.bare,Un.kept hk,⟨_,x.toInCall.ns,fun i y v h1 h2 h3=>?_⟩,fun y c h=>⟨_,x.cell y c h⟩,e0.hok.fresh (Nat.le_refl _),fun y c h=>?_,fun p hp=>absurd (show p∈([]:List (Addr×Obj)) from hp) (by simp),e0.hok.kept hk,?_⟩
 . exact name_of_addr x.apart (PySem.mem_of_lookup h1) (PySem.mem_of_lookup h2)
 . have hy:scope.names.lookup y=some .cell\/scope.names.lookup y=some .free:=hy
   rcases hy with hy|hy
   . exact A6k hy
   . exact absurd rfl (S.nofree _ (PySem.mem_of_lookup hy))
 . exact Nat.le_of_lt (x.above y c (PySem.mem_of_lookup h))
 . have hi:i<vs.length:=by
     unfold A1d at h2
     by_cases hi:i<vs.length
     . exact hi
     . rw[List.getElem?_append_right (by simpa using hi)] at h2
       rw[List.getElem?_replicate] at h2
       split at h2<;>cases h2
   have ha:vs[i]?=some v:=by
     unfold A1d at h2
     rw[List.getElem?_append_left (by simpa using hi),List.getElem?_map] at h2
     cases e:vs[i]? with
     |none=>rw[e] at h2;cases h2
     |some a=>rw[e] at h2;cases h2;rfl
   obtain⟨u,hu,rv⟩:=r.get ha
   have hp:ps[i]?=some y:=by
     rw[<-S.pre,List.getElem?_take_of_lt (by omega)];exact h1
   have ndP:ps.Nodup:=by rw[<-S.pre];exact S.nd.sublist (List.take_sublist _ _)
   refine⟨u,rv,?_⟩
   rcases S.par y (List.mem_of_getElem? hp) with k|k
   . exact .inl ⟨k,A4p ndP hp hu k⟩
   . obtain⟨c,e⟩:=A6k (n:=s.heap.objs.size+1) k
     refine .inr ⟨.inl k,c,e,?_⟩
     have q:=x.cell y c e
     rw[A4z ndP hp hu (by show scope.names.lookup y≠_;rw[k];decide)] at q
     exact q
 . exact e0.hok.fresh (Nat.le_of_lt (x.above y c (PySem.mem_of_lookup h)))
 . unfold A1d
   show _=N.length
   rw[List.length_append,List.length_map,List.length_replicate]
   omega
theorem B7z{CX:CXT}{P:Program}{w:World}{K:PySem.W.Frag}{mg:Str ->Option Value}{base:Heap}{k:Nat}{f:Addr}{name qual:Str}{params:Arguments}{body:List Stmt}{scope:Scope}{dV kV doc pm cdv ct oc:Value}{an od:Option Addr}
   {osl:Array (Option Value)} {N ps:List Str} {sp:Sp} (lk:K.lookup f=some ⟨oc,od,.func (PySem.W.fnOf name qual params body scope dV kV doc pm an cdv ct),osl⟩) (hcd:PySem.W.codeIn K cdv qual=true) (S:FnScope N ps scope)
   (len:∀vs H Q E,sp vs H Q E ->vs.length=ps.length)
   (hbody:∀(A:Around) (outer:List Env) (s:Shared) (H:Hp) (vs:List V) (Q:VK) (E:XK),Room k (A.deeper (envOfC qual scope s.heap.objs.size f cdv)) ->sp vs H Q E ->
     ∃t,PSs (A3s CX P w K mg base N qual scope f cdv A outer s H E) body t/\t {nx:=fun _ H'=>Q .non H',rt:=Q} (A1d N vs) H):
   FnOk P w K mg base CX (k+1) f (PySem.W.fnOf name qual params body scope dV kV doc pm an cdv ct) ps sp:=by
 refine⟨len,fun A outer s H args us vs Q E hr e0 hb r hsp=>?_⟩
 have hl:=len _ _ _ _ hsp
 have KX:K.In s.heap:=e0.mod.kin.keeps fun b o e=>(e0.bs b o e).1
 have lim:s.heap.NoLimit:=e0.mod.nolimit.keeps fun b o e=>(e0.bs b o e).1
 have hkind:∀y∈ps.zip us,scope.names.lookup y.1=some .local\/(scope.names.lookup y.1=some .cell/\((cellsFrom (s.heap.objs.size+1) scope.names []).lookup y.1).isSome=true):=fun⟨n,v⟩ hy=>by
   rcases S.par n (List.of_mem_zip hy).1 with q|q
   . exact .inl q
   . exact .inr ⟨q,PySem.W.cellsFrom_some _ _ _ (.inl q)⟩
 refine codeAny_call_function hr.depth (KX _ _ lk) rfl S.co S.gen rfl (PySem.W.codeRec_of KX hcd) (hb _ _ _ _ ?_)
 refine wpAny_newFunctionEnv_cells S.kind hkind fun env he s1 x=>?_
 subst he
 refine⟨lim.keeps x.toInCall.keep,codeAny_func ?_⟩
 obtain⟨t,ht,hq⟩:=hbody A outer s H vs Q E (hr.deeper _) hsp
 have I:Inv (A3s CX P w K mg base N qual scope f cdv A outer s H E) [] (A1d N vs) H s1:=B2b S hr.hd e0 hl r x
 refine wpAny_mono (ht [] s1 (A1d N vs) H _ I hq) (fun fl s' hs=>?_) fun e s' hs=>hs
 have fin:∀{σ':St} {H':Hp} {v:V} {u:Value},Inv (A3s CX P w K mg base N qual scope f cdv A outer s H E) [] σ' H' s' ->RelV v u ->Q v H' ->CE outer P w H s Q u s':=
   fun{σ' H' v u} J rv q=>⟨v,H',J.os,J.bare,J.base,J.hok,rv,q⟩
 cases fl with
 | ret u=>
   obtain⟨v,σ',H',J,rv,q⟩:=hs
   exact fin J rv q
 | next=>
   obtain⟨σ',H',J,q⟩:=hs
   exact fin (v:=V.non) (u:=Value.none) J rfl q
 | brk=>
   obtain⟨_,_,_,q⟩:=hs
   exact False.elim q
 | cont=>
   obtain⟨_,_,_,q⟩:=hs
   exact False.elim q
section
variable{X:Cx}{x:Str}{p pos:Pos}{e:Expr}{es:List Expr}{t:TA}{id T:String}{r:List V ->Hp ->VK ->Prop}
noncomputable def tCB (r:List V ->Hp ->VK ->Prop) (t:TA):TE:=fun σ H Q=>t σ H fun vs H1=>r vs H1 Q
theorem D3(hc:Y3 X (.builtin id) r)(hg:Gl X x)(hm:X.mg x=none)(hv:bootBuiltins x=some (.builtin id))(ha:PA X (e::es) t)(hn:x≠"__name__":=by decide)(hdb:(x==("__debug__":Str))=false:=by decide)
   (he:starEach (e::es) X.env=(false,eval e X.env)::starEach es X.env:=by rfl) (hpl:(backTo pos (starEach es X.env)).any (·.1)=false:=by rfl):PE X (.Call (.Name x p) (e::es) [] pos) (tCB r t):=by
 intro pins s σ H Q I h
 refine wpAny_Call_Name_kw (A5z I hg hm hv ?_ hn hdb)
 exact PyProof.Rows.callWith_builtin1 (thn (ha pos pins s σ H _ I h) fun us s1 ⟨vs,H1,I1,r1,q1⟩=>hc pins s1 σ H1 vs us Q I1 r1 q1) he hpl
theorem G3(hc:Y3 X (.type T) r)(hg:Gl X x)(hm:X.mg x=none)(hv:bootBuiltins x=some (.type T))(ha:PA X (e::es) t)(hn:x≠"__name__":=by decide)(hdb:(x==("__debug__":Str))=false:=by decide)
   (he:starEach (e::es) X.env=(false,eval e X.env)::starEach es X.env:=by rfl) (hpl:(backTo pos (starEach es X.env)).any (·.1)=false:=by rfl):PE X (.Call (.Name x p) (e::es) [] pos) (tCB r t):=by
 intro pins s σ H Q I h
 refine wpAny_Call_Name_kw (A5z I hg hm hv ?_ hn hdb)
 exact PyProof.Rows.callWith_type1 (thn (ha pos pins s σ H _ I h) fun us s1 ⟨vs,H1,I1,r1,q1⟩=>hc pins s1 σ H1 vs us Q I1 r1 q1) he hpl
end
end L2
namespace HT
open PySem PyProof.Rows
section
open PySem.SeqAt
open PySem.AutoSeq1 (wpAny_loadPart')
open PySem.MeetsSeq PySem.MeetsSeq2 PySem.MeetsSeq3
end
section
variable{prog:Program}{w:World}{A:Around}{E:Value ->Shared ->Prop}{s:Shared}
noncomputable def sIx (n d:Nat):Option Int ->Nat
 |none=>d
 |some v=>if v<0 then(v+(n:Int)).toNat else min v.toNat n
theorem B8y(n d:Nat)(hd:d<=n)(o:Option Int):sIx n d o<=n:=by
 cases o with
 |none=>exact hd
 | some v=>
   show(if v<0 then(v+(n:Int)).toNat else min v.toNat n)<=n
   by_cases hv:v<0
   . rw[if_pos hv];omega
   . rw[if_neg hv];exact Nat.min_le_right _ _
theorem A9s(v:Int)(n d:Nat):(if v<0 then max (v+(n:Int)) 0 else min v (n:Int))=((sIx n d (some v):Nat):Int):=by
 show(if v<0 then max (v+(n:Int)) 0 else min v (n:Int))=(((if v<0 then(v+(n:Int)).toNat else min v.toNat n):Nat):Int)
 by_cases hv:v<0
 . simp only[if_pos hv];omega
 . simp only[if_neg hv];omega
theorem A8h(lo hi:Option Int)(n:Nat):Builtin.Slice.sliceAdjust lo hi 1 (n:Int)=(((sIx n 0 lo:Nat):Int),((sIx n n hi:Nat):Int)):=by
 have h1:¬((1:Int)<0):=by omega
 unfold Builtin.Slice.sliceAdjust
 simp only[h1,if_false]
 refine Prod.ext ?_ ?_
 . cases lo with
   |none=>rfl
   |some v=>exact A9s v n 0
 . cases hi with
   |none=>rfl
   |some v=>exact A9s v n n
theorem A7y(i j:Nat):Builtin.Slice.slicePlaces (i:Int) (j:Int) 1=j-i:=by
 unfold Builtin.Slice.slicePlaces
 have h1:(1:Int)>0:=by omega
 simp only[h1,if_true,Int.ediv_one]
 split<;>omega
theorem A3u{v:Value}{o:Option Int}{Q:Option Int ->Shared ->Prop}(p:IsPart v o)(h:Q o s):wpAny (model prog w) A (Builtin.Slice.slicePartIndex v) Q E s:=by
 cases p with
 |none=>exact slicePart_none h
 |int i t=>exact slicePart_int h
theorem A2c{sl:Addr}{vl vu:Value}{lo hi:Option Int}{n:Nat}{Q:Int×Int×Nat ->Shared ->Prop}(hs:s.heap.IsSliceOf sl vl vu .none)(pl:IsPart vl lo)(pu:IsPart vu hi)
   (h:Q (((sIx n 0 lo:Nat):Int),1,sIx n n hi-sIx n 0 lo) s):wpAny (model prog w) A (Builtin.Slice.sliceApplied (.ref sl) (pure (n:Int))) Q E s:=by
 obtain⟨os,hos,hcs,hds⟩:=id hs
 unfold Builtin.Slice.sliceApplied Builtin.Slice.sliceFields
 refine wpAny_bind (wpAny_bind (wpAny_field hos hds (x:=vl) rfl (wpAny_bind (wpAny_field hos hds (x:=vu) rfl (wpAny_bind (wpAny_field hos hds (x:= .none) rfl (wpAny_pure ?_)))))))
 refine wpAny_bind (slicePart_none ?_)
 show wpAny _ _ (if((1:Int)==0)=true then _ else _) _ _ s
 rw[if_neg (by decide)]
 refine wpAny_bind (A3u pl (wpAny_bind (A3u pu (wpAny_bind (wpAny_pure ?_)))))
 show wpAny _ _ (match Builtin.Slice.sliceAdjust lo hi 1 (n:Int) with|(lo,hi)=>pure (lo,(1:Int),Builtin.Slice.slicePlaces lo hi 1)) _ _ s
 rw[A8h lo hi n]
 show wpAny _ _ (pure (((sIx n 0 lo:Nat):Int),(1:Int),Builtin.Slice.slicePlaces ((sIx n 0 lo:Nat):Int) ((sIx n n hi:Nat):Int) 1)) _ _ s
 rw[A7y]
 exact wpAny_pure h
theorem B2r(xs:Array Value)(i k:Nat):((List.range k).filterMap fun(m:Nat)=>xs[((i:Int)+(m:Int)*1).toNat]?).toArray=((xs.toList.drop i).take k).toArray:=by
 have e:(fun(m:Nat)=>xs[((i:Int)+(m:Int)*1).toNat]?)=fun m=>xs[i+m]?:=by
   funext m
   have:((i:Int)+(m:Int)*1).toNat=i+m:=by omega
   rw[this]
 rw[e]
 have:=pick_run xs i k
 rw[List.filterMap_map] at this
 have e2:((fun x=>xs[x]?)∘fun x=>i+x)=fun m=>xs[i+m]?:=rfl
 rw[e2] at this
 rw[this]
theorem getItem_tuple_cut{t sl:Addr}{items:Array Value}{vl vu:Value}{lo hi:Option Int}{Q:Value ->Shared ->Prop}(ht:IsTup s.heap t items)(hs:s.heap.IsSliceOf sl vl vu .none)(pl:IsPart vl lo)(pu:IsPart vu hi)
   (hw:¬(sIx items.size 0 lo=0/\sIx items.size items.size hi=items.size))
   (h:Q (.ref s.heap.objs.size) {s with heap:=s.heap.push {cls:= .type "tuple",data:= .seq ((items.toList.drop (sIx items.size 0 lo)).take (sIx items.size items.size hi-sIx items.size 0 lo)).toArray}})
   (hsz:items.size<=sizeLine):wpAny (model prog w) A (getItem (.ref t) (.ref sl)) Q E s:=by
 have htake:sizeOk (.seq ((items.toList.drop (sIx items.size 0 lo)).take (sIx items.size items.size hi-sIx items.size 0 lo)).toArray):=by
   show((items.toList.drop (sIx items.size 0 lo)).take (sIx items.size items.size hi-sIx items.size 0 lo)).toArray.size<=sizeLine
   rw[List.size_toArray,List.length_take,List.length_drop,Array.length_toList]
   omega
 have hj:sIx items.size items.size hi<=items.size:=B8y _ _ (Nat.le_refl _) hi
 obtain⟨os,hos,hcs,hds⟩:=id hs
 have hTs:s.TypeIs (.ref sl) "slice":=⟨os,hos,hcs⟩
 unfold getItem
 try with_reducible refine wpAny_holding ?_
 first|refine wpAny_bind (wpAny_pure ?_)|skip
 refine wpAny_bind (wpAny_sequenceKey ht.typeIs (by decide) ?_)
 refine wpAny_bind (wpAny_callSpecial?_slot (name:=Str.ofString "__getitem__") ht.typeIs PyProof.Rows.slot_tuple_getitem
   (wpAny_call_entry PyProof.Rows.slot_tuple_getitem ht.typeIs entry_tuple_getitem ?_ (args_tuple_getitem _ _)))
 show wpAny _ _ (Builtin.Tuple.tupleItemsOf (.ref t)>>=_) _ _ s
 refine wpAny_bind (tupleItemsOf_ ht ?_)
 refine wpAny_bind (wpAny_typeOf hTs ?_)
 rw[if_pos (by decide)]
 refine wpAny_bind (A2c hs pl pu ?_)
 have hno:¬((((sIx items.size 0 lo:Nat):Int)==0&&(1:Int)==1&&(sIx items.size items.size hi-sIx items.size 0 lo)==items.size)=true):=by
   intro q
   rw[Bool.and_eq_true,Bool.and_eq_true] at q
   have q1:((sIx items.size 0 lo:Nat):Int)=0:=eq_of_beq q.1.1
   have q2:sIx items.size items.size hi-sIx items.size 0 lo=items.size:=eq_of_beq q.2
   exact hw ⟨by omega,by omega⟩
 show wpAny _ _ (if(((sIx items.size 0 lo:Nat):Int)==0&&(1:Int)==1&&(sIx items.size items.size hi-sIx items.size 0 lo)==items.size)=true then _ else _) _ _ s
 rw[if_neg hno,B2r]
 first
   |exact wpAny_bind (m:=Builtin.Tuple.tupleExact _) (wpAny_newObj_type (wpAny_pure ⟨_,rfl,wpAny_pure h⟩) htake)
   |exact wpAny_bind (m:=Builtin.Tuple.tupleExact _) (wpAny_newObj_type (wpAny_bind (wpAny_pure (wpAny_pure ⟨_,rfl,wpAny_pure h⟩))) htake)
   |exact wpAny_bind (wpAny_bind (m:=Builtin.Tuple.tupleExact _) (wpAny_newObj_type (wpAny_pure (wpAny_pure ⟨_,rfl,wpAny_pure h⟩)) htake))
   |exact wpAny_bind (wpAny_bind (m:=Builtin.Tuple.tupleExact _) (wpAny_newObj_type (wpAny_pure ⟨_,rfl,wpAny_pure h⟩) htake))
end
end HT
namespace L2
open PySem PySem.Spec PyProof.Rows
noncomputable abbrev TO:=St ->Hp ->(Option Int ->Hp ->Prop) ->Prop
noncomputable def PO (X:Cx) (e:Option Expr) (t:TO):Prop:=
 ∀ (pins:List (Addr×Obj)) (s:Shared) (σ:St) (H:Hp) (Q:Option Int ->Hp ->Prop),Inv X pins σ H s ->t σ H Q ->
   wpAny (model X.prog X.w) X.A (evalPart e X.env) (fun u s'=>∃o H',Inv X pins σ H' s'/\IsPart u o/\Q o H') X.xe s
noncomputable def B6k:TO:=fun _ H Q=>Q none H
noncomputable def C1n (t:TE):TO:=fun σ H Q=>t σ H fun x H1=>∃i,x= .int i/\Q (some i) H1
section
variable{X:Cx}{e:Expr}{te:TE}{lo hi:Option Expr}{tl th:TO}{pos p2:Pos}
theorem V6:PO X none B6k:=by
 intro pins s σ H Q I h
 rw[evalPart_none]
 exact wpAny_pure ⟨none,H,I,.none,h⟩
theorem V4(h:PE X e te):PO X (some e) (C1n te):=by
 intro pins s σ H Q I hw
 rw[evalPart_some]
 refine thn (h pins s σ H _ I hw) fun u s1 hh_=>?_
 obtain⟨x,H1,I1,r1,q1⟩:=hh_
 obtain⟨i,rfl,q⟩:=q1
 obtain⟨t,rfl⟩:=r1
 exact⟨some i,H1,I1,.int i t,q⟩
noncomputable def SlR (X:Cx) (r:V ->Option Int ->Option Int ->Hp ->VK ->Prop):Prop:=
 ∀ (pins:List (Addr×Obj)) (s:Shared) (σ:St) (H:Hp) (x:V) (v vl vu:Value) (lo hi:Option Int) (sl:Addr) (Q:VK),Inv X pins σ H s ->RelV x v ->s.heap.IsSliceOf sl vl vu .none ->IsPart vl lo ->IsPart vu hi ->r x lo hi H Q ->
   ∃T id,typeLookup (.type T) "__getitem__"=pure (some (.builtin id))/\s.TypeIs v T/\wpAny (model X.prog X.w) X.A (getItem v (.ref sl)) (EP X pins σ Q) X.xe s
noncomputable def tSl (r:V ->Option Int ->Option Int ->Hp ->VK ->Prop) (te:TE) (tl th:TO):TE:=fun σ H Q=>te σ H fun x H1=>tl σ H1 fun l H2=>th σ H2 fun u H3=>r x l u H3 Q
theorem U2{r:V ->Option Int ->Option Int ->Hp ->VK ->Prop}(hr:SlR X r)(he:PE X e te)(hl:PO X lo tl)(hu:PO X hi th):PE X (.Subscript e (.Slice lo hi none p2) pos) (tSl r te tl th):=by
 intro pins s σ H Q I h
 refine Subscript_ (thn (he pins s σ H _ I h) fun v s1 hh_=>?_)
 obtain⟨x,H1,I1,r1,q1⟩:=hh_
 refine wpAny_Slice (thn (hl pins s1 σ H1 _ I1 q1) fun vl s2 ⟨l,H2,I2,pl,q2⟩=>thn (hu pins s2 σ H2 _ I2 q2) fun vu s3 hh_=>?_)
 obtain⟨u,H3,I3,pu,q3⟩:=hh_
 rw[evalPart_none]
 refine wpAny_pure ?_
 have I4:Inv X pins σ H3 {s3 with heap:=s3.heap.push {cls:= .type "slice",data:= .fields #[vl,vu,.none]}}:=I3.kept (t':=s3.toks) fun b ob q=>Heap.get?_push_of_some _ q
 obtain⟨T,id,hT,ht,hg⟩:=hr pins {s3 with heap:=s3.heap.push {cls:= .type "slice",data:= .fields #[vl,vu,.none]}} σ H3 x v vl vu l u s3.heap.objs.size Q I4 r1 (Heap.IsSliceOf.new ..) pl pu q3
 show wpAny (model X.prog X.w) X.A (subscriptTail e (.Slice lo hi none p2) v (.ref s3.heap.objs.size)) (EP X pins σ Q) X.xe {s3 with heap:=s3.heap.push {cls:= .type "slice",data:= .fields #[vl,vu,.none]}}
 exact tail_any (ops:=[.ref s3.heap.objs.size,v]) ht hT hg (by with_unfolding_all rfl)
noncomputable def A8f (xs:List V) (lo hi:Option Int):List V:=(xs.drop (HT.sIx xs.length 0 lo)).take (HT.sIx xs.length xs.length hi-HT.sIx xs.length 0 lo)
theorem A7b(xs:List V)(lo hi:Option Int):(A8f xs lo hi).length<=xs.length:=by
 unfold A8f
 rw[List.length_take,List.length_drop]
 omega
noncomputable def C2u (K:PySem.W.Frag):V ->Option Int ->Option Int ->Hp ->VK ->Prop:=fun x lo hi H Q=>∃a xs,x= .ref a/\SqT K H a xs/\
 ¬(HT.sIx xs.length 0 lo=0/\HT.sIx xs.length xs.length hi=xs.length)/\∀p,H p=none ->Q (.ref p) (upd H p (.tup (A8f xs lo hi)))
theorem B9y:SlR X (C2u X.K):=by
 intro pins s σ H x v vl vu lo hi sl Q I rx hs pl pu h
 obtain⟨a,xs,rfl,hx,hw,q⟩:=h
 cases rx
 obtain⟨its,r,ht,hz⟩:=I.tuple hx
 have hlen:its.toArray.size=xs.length:=by rw[List.size_toArray];exact r.length.symm
 refine⟨"tuple",_,PyProof.Rows.slot_tuple_getitem.lookup,ht.typeIs,?_⟩
 refine HT.getItem_tuple_cut ht hs pl pu (by rw[hlen];exact hw) ?_ (by rw[hlen];exact hz)
 rw[hlen]
 refine⟨.ref s.heap.objs.size,_,I.laid (t':=s.toks) (o:= .tup (A8f xs lo hi)) (fun b ob q=>Heap.get?_push_of_some _ q) (Nat.le_refl _) ?_,rfl,q _ (I.hok.fresh (Nat.le_refl _))⟩
 exact⟨Nat.le_trans (A7b xs lo hi) hz,_,(r.drop (HT.sIx xs.length 0 lo)).take (HT.sIx xs.length xs.length hi-HT.sIx xs.length 0 lo),IsTup.new _ _⟩
end
noncomputable def ixN (n:Nat) (i:Int):Option Nat:=if 0<=i then(if i<n then some i.toNat else none) else if -(n:Int)<=i then some (i+n).toNat else none
noncomputable def atI {α:Type} (xs:List α) (i:Int):Option α:=(ixN xs.length i).bind fun j=>xs[j]?
theorem B6d{n:Nat}{i:Int}{j:Nat}(h:ixN n i=some j):seqIndex? i n=some j/\j<n/\ -(n:Int)<=i/\i<n:=by
 unfold ixN at h
 by_cases h0:0<=i
 . rw[if_pos h0] at h
   by_cases h1:i<n
   . rw[if_pos h1] at h
     have e:i.toNat=j:=Option.some.inj h
     exact⟨by rw[seqIndex_of h0 h1,e],by omega,by omega,h1⟩
   . rw[if_neg h1] at h;cases h
 . rw[if_neg h0] at h
   by_cases h1: -(n:Int)<=i
   . rw[if_pos h1] at h
     have e:(i+n).toNat=j:=Option.some.inj h
     exact⟨by rw[seqIndex_neg (by omega) h1,e],by omega,h1,by omega⟩
   . rw[if_neg h1] at h;cases h
theorem A5j{α:Type}{xs:List α}{i:Int}{v:α}(h:atI xs i=some v):∃j,seqIndex? i xs.length=some j/\xs[j]?=some v/\j<xs.length/\ -(xs.length:Int)<=i/\i<xs.length:=by
 unfold atI at h
 cases e:ixN xs.length i with
 |none=>rw[e] at h;cases h
 | some j=>
   rw[e] at h
   obtain⟨h1,h2,h3,h4⟩:=B6d e
   exact⟨j,h1,h,h2,h3,h4⟩
theorem G0{α:Type}{xs:List α}{j:Nat}{v:α}(h:xs[j]?=some v):atI xs (j:Int)=some v:=by
 have hj:j<xs.length:=(List.getElem?_eq_some_iff.mp h).1
 have e:ixN xs.length (j:Int)=some j:=by
   unfold ixN
   rw[if_pos (by omega),if_pos (by omega)];simp
 unfold atI;rw[e];exact h
noncomputable def B6b (b:Expr):Prop:=∀o i,subscripted b false o i=operate [o,i] (getItem o i)
noncomputable def IxR (X:Cx) (r:R2):Prop:=
 ∀ (value slice:Expr) (pins:List (Addr×Obj)) (s:Shared) (σ:St) (H:Hp) (x y:V) (v u:Value) (Q:VK),Inv X pins σ H s ->RelV x v ->RelV y u ->r x y H Q ->
   subscripted slice false v u=operate [v,u] (getItem v u) ->wpAny (model X.prog X.w) X.A (subscriptTail value slice v u) (EP X pins σ Q) X.xe s
noncomputable def MtR (X:Cx) (id:String) (r:V ->List V ->Hp ->VK ->Prop):Prop:=
 ∀ (pins:List (Addr×Obj)) (s:Shared) (σ:St) (H:Hp) (x:V) (xs:List V) (v:Value) (us:List Value) (Q:VK),Inv X pins σ H s ->RelV x v ->Vals xs us ->r x xs H Q ->
   wpAny (model X.prog X.w) X.A (call (.builtin id) (v::us)) (EP X pins σ Q) X.xe s
section
variable{X:Cx}{a b:Expr}{ta tb:TE}{pos:Pos}
theorem J9{r:R2}(hr:IxR X r)(ha:PE X a ta)(hb:PE X b tb)(hs:B6b b):PE X (.Subscript a b pos) (tOp r ta tb):=by
 intro pins s σ H Q I h
 exact Subscript_ (B9s ha hb I h fun v u s2 x y H2 I2 rx ry q=>hr a b pins s2 σ H2 x y v u Q I2 rx ry q (hs _ _))
noncomputable def C1g (K:PySem.W.Frag):R2:=fun x y H Q=>∃p xs i v,x= .ref p/\y= .int i/\SqL K H p xs/\atI xs i=some v/\Q v H
noncomputable def C1f (K:PySem.W.Frag):R2:=fun x y H Q=>∃p xs i v,x= .ref p/\y= .int i/\SqT K H p xs/\atI xs i=some v/\Q v H
noncomputable def C3m:R2:=fun x y H Q=>∃z i c,x= .str z/\y= .int i/\z.length<=sizeLine/\atI z.cps.toList i=some c/\Q (.str ⟨#[c]⟩) H
theorem A1q:IxR X (C1g X.K):=by
 intro value slice pins s σ H x y v u Q I rx ry h hs
 obtain⟨p,xs,i,z,rfl,rfl,hq,he,q⟩:=h
 cases rx
 obtain⟨t,rfl⟩:=ry
 obtain⟨its,r,pl,hz⟩:=I.list hq
 obtain⟨j,h1,h2,h3,h4,h5⟩:=A5j he
 obtain⟨w,ew,rw'⟩:=r.get h2
 have hl:=r.length
 have hn:=A3x
 have fin:EP X pins σ Q w s:=⟨z,H,I,rw',q⟩
 by_cases h0:0<=i
 . have hj:i.toNat=j:=by
     rw[seqIndex_of h0 h5] at h1
     exact Option.some.inj h1
   exact item_listR pl.isList h0 (by omega) (by rw[hj];simpa using ew) fin hs
 . have hj:(i+(its.toArray.size:Int)).toNat=j:=by
     rw[seqIndex_neg (by omega) h4] at h1
     rw[List.size_toArray, <-hl]
     exact Option.some.inj h1
   exact subscriptTail_builtinR (x:=w) pl.isList.typeIs slot_list_getitem.lookup
     (wpAny_getItem_list_neg (Q:=fun r s'=>r=w/\EP X pins σ Q r s') pl.isList (by omega) (by rw[List.size_toArray]<;>omega) (by omega) (by rw[hj];simpa using ew) ⟨rfl,fin⟩) hs
theorem A0w:IxR X (C1f X.K):=by
 intro value slice pins s σ H x y v u Q I rx ry h hs
 obtain⟨p,xs,i,z,rfl,rfl,hq,he,q⟩:=h
 cases rx
 obtain⟨t,rfl⟩:=ry
 obtain⟨its,r,pl,hz⟩:=I.tuple hq
 obtain⟨j,h1,h2,h3,h4,h5⟩:=A5j he
 obtain⟨w,ew,rw'⟩:=r.get h2
 have hl:=r.length
 have hn:=A3x
 have fin:EP X pins σ Q w s:=⟨z,H,I,rw',q⟩
 exact subscriptTail_builtinR (x:=w) pl.typeIs slot_tuple_getitem.lookup
   (getItem_tuple (j:=j) (Q:=fun r s'=>r=w/\EP X pins σ Q r s') pl (by omega) (by omega) (by rw[List.size_toArray, <-hl];exact h1) (by simpa using ew) ⟨rfl,fin⟩) hs
theorem A1r:IxR X C3m:=by
 intro value slice pins s σ H x y v u Q I rx ry h hs
 obtain⟨z,i,c,rfl,rfl,hz,he,q⟩:=h
 obtain⟨t,rfl⟩:=rx
 obtain⟨t',rfl⟩:=ry
 obtain⟨j,h1,h2,h3,h4,h5⟩:=A5j he
 have hl:z.cps.toList.length=z.length:=by simp[Str.length]
 rw[hl] at h1 h4 h5
 have hn:=A3x
 exact tail_any (typeIs_str s z t) slot_str_getitem.lookup (getItem_str (c:=c) (by
   have e1:decide (i< -(2^63:Int))=false:=decide_eq_false (by omega)
   have e2:decide (i>=2^63)=false:=decide_eq_false (by omega)
   rw[e1,e2,Bool.or_false]) (by rw[h1];simpa using h2) ⟨.str ⟨#[c]⟩,H,I.tok _,⟨_,rfl⟩,q⟩) hs
theorem A1k:Y3 X (.builtin "len") (fun xs H Q=>∃p ys,xs=[.ref p]/\(SqL X.K H p ys\/SqT X.K H p ys)/\Q (.int ys.length) H):=by
 intro pins s σ H xs us Q I r h
 obtain⟨p,ys,rfl,hq,q⟩:=h
 obtain⟨u,rfl,rx⟩:=A2k r
 cases rx
 have hn:=A3x
 rcases hq with hq|hq
 . obtain⟨its,r',pl,hz⟩:=I.list hq
   have hlen:=r'.length
   exact Calls.call_len_list pl.isList (by simp only[List.size_toArray]<;>omega) ⟨.int ys.length,H,I.tok _,⟨s.toks+1,by rw[List.size_toArray,hlen]⟩,q⟩
 . obtain⟨its,r',pl,hz⟩:=I.tuple hq
   have hlen:=r'.length
   exact len_tuple pl (by simp only[List.size_toArray]<;>omega) ⟨.int ys.length,H,I.tok _,⟨s.toks+1,by rw[List.size_toArray,hlen]⟩,q⟩
theorem D4:Y3 X (.builtin "len") (fun xs H Q=>∃z,xs=[.str z]/\z.length<=sizeLine/\Q (.int z.length) H):=by
 intro pins s σ H xs us Q I r h
 obtain⟨z,rfl,hz,q⟩:=h
 obtain⟨u,rfl,t,rfl⟩:=A2k r
 have hn:=A3x
 exact len_str (by omega) ⟨.int z.length,H,I.tok _,⟨_,rfl⟩,q⟩
theorem A4j:Y3 X (.type "tuple") (fun xs H Q=>∃p ys,xs=[.ref p]/\((SqL X.K H p ys/\∀l,H l=none ->Q (.ref l) (upd H l (.tup ys)))\/(SqT X.K H p ys/\Q (.ref p) H))):=by
 intro pins s σ H xs us Q I r h
 obtain⟨p,ys,rfl,h⟩:=h
 obtain⟨u,rfl,rx⟩:=A2k r
 cases rx
 rcases h with⟨hq,q⟩|⟨hq,q⟩
 . obtain⟨its,r',pl,hz⟩:=I.list hq
   have hlen:=r'.length
   refine call_tuple_list pl.isList (fun h' kp=>?_) (by simp only[List.size_toArray]<;>omega)
   have I1:Inv X pins σ H {s with heap:=h'}:=I.kept (t':=s.toks) kp
   have I2:Inv X pins σ (upd H h'.objs.size (.tup ys)) {s with heap:=h'.push {cls:= .type "tuple",data:= .seq its.toArray}}:=
     I1.laid (t':=s.toks) (fun b o e=>Heap.get?_push_of_some _ e) (Nat.le_refl _) (show ObjOk X.prog X.w _ _ _ (.tup ys) from⟨hz,its,r',IsTup.new _ _⟩)
   exact⟨.ref h'.objs.size,_,I2,rfl,q _ (I1.hok.fresh (Nat.le_refl _))⟩
 . obtain⟨its,r',pl,hz⟩:=I.tuple hq
   exact call_tuple_same pl ⟨.ref p,H,I,rfl,q⟩
noncomputable def tyV (K:PySem.W.Frag) (T:String) (x:V) (H:Hp):Prop:=match x with
 | .str _=>T="str"
 | .int _=>T="int"
 | .ref p=>(T="list"/\∃xs,SqL K H p xs)\/(T="tuple"/\∃o,K.lookup p=some o/\o.cls= .type "tuple"/\o.dict=none)\/
     (T="dict"/\((∃kvs,H p=some (.dK kvs))\/∃kvs,H p=some (.dT kvs)))\/(T="set"/\∃S n,H p=some (.set S n))
 |_=>False
theorem B2v{pins:List (Addr×Obj)}{σ:St}{H:Hp}{s:Shared}{T:String}{x:V}{v:Value}(I:Inv X pins σ H s)(r:RelV x v)(ty:tyV X.K T x H):
   s.TypeIs v T/\∀a,v= .ref a ->∃ob,s.heap.get? a=some ob/\ob.dict=none:=by
 cases x with
 | str z=>
   obtain⟨t,rfl⟩:=r
   cases(show T="str" from ty)
   exact⟨typeIs_str s z t,fun _ e=>nomatch e⟩
 | int i=>
   obtain⟨t,rfl⟩:=r
   cases(show T="int" from ty)
   exact⟨typeIs_int s i t,fun _ e=>nomatch e⟩
 | ref p =>
   cases r
   rcases ty with⟨rfl,xs,hq⟩|⟨rfl,o,hk,hc,hd⟩|⟨rfl,hk⟩|⟨rfl,S,n,hk⟩
   . obtain⟨its,_,pl,_⟩:=I.list hq
     refine⟨pl.isList.typeIs,fun a e=>?_⟩
     cases e
     obtain⟨o,n,e,c,hd,_⟩:=pl
     exact⟨o,e,hd⟩
   . refine⟨⟨o,I.kIn p o hk,hc⟩,fun a e=>?_⟩
     cases e
     exact⟨o,I.kIn _ o hk,hd⟩
   . have z:∃o,s.heap.get? p=some o/\o.ExactDict:=by
       rcases hk with⟨kvs,hk⟩|⟨kvs,hk⟩
       . obtain⟨_,_,_,_,o,_,_,e,ex,_⟩:=I.hok p _ hk
         exact⟨o,e,ex⟩
       . obtain⟨_,_,_,_,o,_,_,e,ex,_⟩:=I.hok p _ hk
         exact⟨o,e,ex⟩
     obtain⟨o,e,ex⟩:=z
     refine⟨⟨o,e,ex.1⟩,fun a e2=>?_⟩
     cases e2
     exact⟨o,e,ex.2.1⟩
   . obtain⟨o,_,_,_,e,ex,_⟩:=I.hok p _ hk
     refine⟨⟨o,e,ex.1⟩,fun a e2=>?_⟩
     cases e2
     exact⟨o,e,ex.2.1⟩
 |_=>exact False.elim ty
noncomputable def C2z (K:PySem.W.Frag) (T:String) (r:V ->List V ->Hp ->VK ->Prop) (to:TE):TE:=fun σ H Q=>to σ H fun x H1=>tyV K T x H1/\r x [] H1 Q
noncomputable def tBM (K:PySem.W.Frag) (T:String) (r:V ->List V ->Hp ->VK ->Prop) (to:TE) (t:TA):TE:=fun σ H Q=>to σ H fun x H1=>tyV K T x H1/\t σ H1 fun xs H2=>r x xs H2 Q
variable{o e:Expr}{es:List Expr}{to:TE}{t:TA}{name:Str}{apos cpos:Pos}{T id:String}{r:V ->List V ->Hp ->VK ->Prop}
theorem A8s(pa:PlainAttrs T)(slot:Slot T name id)(hty:typeOf (.builtin id)=pure (.type "method_descriptor"))(hm:MtR X id r)(ho:PE X o to)
   (hbase:attributeBase o name X.env (eval o X.env)=eval o X.env:=by rfl) (hline:(apos.endLine==cpos.line)=true:=by rfl):PE X (.Call (.Attribute o name apos) [] [] cpos) (C2z X.K T r to):=by
 intro pins s σ H Q I h
 refine wpAny_Call_method0_late hbase hline (thn (ho pins s σ H _ I h) fun v s1 hh_=>?_)
 obtain⟨x,H1,I1,r1,ty,q1⟩:=hh_
 obtain⟨h1,h2⟩:=B2v I1 r1 ty
 exact⟨T,id,pa,slot,hty,h1,h2,Calls.callWith_builtin rfl (PySem.evalArgs_none (hm pins s1 σ H1 x [] v [] Q I1 r1 .nil q1))⟩
theorem A2n(pa:PlainAttrs T)(slot:Slot T name id)(hty:typeOf (.builtin id)=pure (.type "method_descriptor"))(hm:MtR X id r)(ho:PE X o to)(ha:PA X (e::es) t)
   (hbase:attributeBase o name X.env (eval o X.env)=eval o X.env:=by rfl)
   (hfew:((backTo cpos (starEach (e::es) X.env)).all (fun x=> !x.1)&&(backToKw cpos (keywordEach [] X.env)).all (fun x=>x.1.isSome)
     &&decide ((e::es).length+([]:List Keyword).length+(if([]:List Keyword).isEmpty then 0 else 1)<30))=true:=by rfl)
   (hline:(apos.endLine==cpos.line)=true:=by rfl) (hs:starEach (e::es) X.env=(false,eval e X.env)::starEach es X.env:=by rfl) (hplain:(backTo cpos (starEach es X.env)).any (·.1)=false:=by rfl):
   PE X (.Call (.Attribute o name apos) (e::es) [] cpos) (tBM X.K T r to t):=by
 intro pins s σ H Q I h
 refine wpAny_Call_method_late hbase hfew hline rfl (thn (ho pins s σ H _ I h) fun v s1 hh_=>?_)
 obtain⟨x,H1,I1,r1,ty,q1⟩:=hh_
 obtain⟨h1,h2⟩:=B2v I1 r1 ty
 refine⟨T,id,pa,slot,hty,h1,h2,?_⟩
 have hA:=ha cpos pins s1 σ H1 _ I1 q1
 rw[hs] at hA ⊢
 refine Calls.callWith_builtin (by show(false||(backTo cpos (starEach es X.env)).any (·.1))=false;rw[hplain]<;>rfl) (Calls.evalArgs_plain ?_)
 exact thn hA fun us s2 ⟨vs,H2,I2,r2,q2⟩=>hm pins s2 σ H2 x vs v us Q I2 r1 r2 q2
end
noncomputable def MtM (X:Cx) (id:String) (r:V ->List V ->Hp ->VK ->Prop):Prop:=
 ∀ (pins:List (Addr×Obj)) (s:Shared) (σ:St) (H:Hp) (x:V) (xs:List V) (v:Value) (us:List Value) (Q:VK),Inv X pins σ H s ->RelV x v ->Vals xs us ->r x xs H Q ->
   wpAny (model X.prog X.w) X.A (call (.builtin id) (v::us)) (EP X pins σ Q) X.xe s
theorem Vals.one{x:V}{us:List Value}(h:Vals [x] us):∃u,us=[u]/\RelV x u:=by
 cases h with
 |cons r t=>cases t;exact⟨_,rfl,r⟩
theorem Vals.two{x y:V}{us:List Value}(h:Vals [x,y] us):∃u v,us=[u,v]/\RelV x u/\RelV y v:=by
 cases h with
 | cons r t=>
   cases t with
   |cons q z=>cases z;exact⟨_,_,rfl,r,q⟩
theorem Vals.zero:∀{us:List Value},Vals [] us ->us=[]
 |_,.nil=>rfl
section
variable{X:Cx}{pins:List (Addr×Obj)}{σ:St}{H:Hp}{s:Shared}{l b:Addr}{xs ys zs:List V}
theorem Inv.lset{its its':List Value}{n:Nat}{f:Array Value ->Array Value}{t':Nat}(I:Inv X pins σ H s)(hH:H l=some (.lst xs))
   (e:s.heap.get? l=some {cls:= .type "list",data:= .seq its.toArray n}) (hf:f its.toArray=its'.toArray) (hv:Vals ys its') (hz:ys.length<=sizeLine):
   Inv X pins σ (upd H l (.lst ys)) {s with heap:=s.heap.update l (Obj.mapSeq f),toks:=t'}:=by
 have q:=PySem.IsL.update e f
 rw[hf] at q
 refine I.write (x:=l) (e:=l) (by rw[hH];exact trivial) (.inl rfl) (fun b' u hb hu=>(Heap.get?_update_other s.heap (Obj.mapSeq f) (Ne.symm hb)).trans hu) ⟨_,q⟩ ?_
 exact⟨hz,its',_,hv,q⟩
theorem Inv.lnew{its:List Value}{t':Nat}(I:Inv X pins σ H s)(hv:Vals ys its)(hz:ys.length<=sizeLine):
   Inv X pins σ (upd H s.heap.objs.size (.lst ys)) {s with heap:=s.heap.push {cls:= .type "list",data:= .seq its.toArray},toks:=t'}:=
 I.laid (fun _ _ q=>Heap.get?_push_of_some _ q) (Nat.le_refl _) ⟨hz,its,0,hv,Heap.get?_push_size _ rfl⟩
theorem Inv.fresh(I:Inv X pins σ H s):H s.heap.objs.size=none:=I.hok.fresh (Nat.le_refl _)
theorem Inv.lstM(I:Inv X pins σ H s)(hH:H l=some (.lst xs)):xs.length<=sizeLine/\∃(its:List Value) (n:Nat),Vals xs its/\xs.length=its.length/\s.heap.get? l=some {cls:= .type "list",data:= .seq its.toArray n}:=by
 obtain⟨z,its,n,r,e⟩:=I.hok l _ hH
 exact⟨z,its,n,r,r.length,e⟩
end
section
variable{X:Cx}
noncomputable def B6p:V ->List V ->Hp ->VK ->Prop:=fun x vs H Q=>∃l xs y,x= .ref l/\vs=[y]/\H l=some (.lst xs)/\xs.length<sizeLine/\Q .non (upd H l (.lst (xs++ [y])))
theorem A4t:MtM X "list.append" B6p:=by
 intro pins s σ H x vs v us Q I rx rv h
 obtain⟨l,xs,y,rfl,rfl,hH,hz,q⟩:=h
 cases rx
 obtain⟨u,rfl,ru⟩:=rv.one
 obtain⟨z,its,n,r,hl,e⟩:=I.lstM hH
 refine call_meets F.slot_list_append ⟨_,e,rfl⟩ F.entry_list_append (F.args_list_append_2 _ _) (PySem.list_append l its.toArray n u (by rw[List.size_toArray];omega)) ⟨e,?_⟩
 refine⟨.non,_,I.lset (its':=its++ [u]) hH e (by simp) (r.append (.cons ru .nil)) ?_,rfl,q⟩
 rw[List.length_append,List.length_singleton]
 omega
noncomputable def C2w:R2:=fun x y H Q=>∃l b xs zs,x= .ref l/\y= .ref b/\H l=some (.lst xs)/\H b=some (.lst zs)/\xs.length+zs.length<=sizeLine/\∀p,H p=none ->Q (.ref p) (upd H p (.lst (xs++zs)))
theorem A8e:OpR X (binaryOp .Add) C2w:=by
 intro pins s σ H x y v u Q I rx ry h
 obtain⟨l,b,xs,zs,rfl,rfl,hH,hB,hz,q⟩:=h
 cases rx
 cases ry
 obtain⟨z,its,n,r,hl,e⟩:=I.lstM hH
 obtain⟨z2,its2,n2,r2,hl2,e2⟩:=I.lstM hB
 refine PySem.P.add_list e e2 ?_ (by rw[List.size_toArray,List.size_toArray];omega)
 have ea:its.toArray++its2.toArray=(its++its2).toArray:=by simp
 rw[ea]
 exact⟨.ref _,_,I.lnew (t':=s.toks) (r.append r2) (by rw[List.length_append];omega),rfl,q _ I.fresh⟩
theorem B7t{α:Type}(xs:List α)(k:Nat):(List.replicate k xs).flatten.length=k*xs.length:=by
 induction k with
 |zero=>simp
 |succ k ih=>rw[List.replicate_succ,List.flatten_cons,List.length_append,ih,Nat.succ_mul,Nat.add_comm]
end
section
variable{prog:Program}{w:World}{A:Around}{E:Value ->Shared ->Prop}{s:Shared}
end
section
variable{X:Cx}
end
end L2
namespace Att
open PySem PySem.W PySem.Calls PyProof.Rows
theorem A2q{P:Params}{h:Heap}:∀(ns:List Int) (vs:List Value),WellAll P h vs (ns.map WData.int) ->IntsAre vs ns:=by
 intro ns
 induction ns with
 | nil=>
   intro vs w
   rw[List.map_nil] at w
   cases w
   exact .nil
 | cons n ns ih=>
   intro vs w
   rw[List.map_cons] at w
   cases w with
   | cons a b=>
     cases a
     exact .cons _ _ (ih _ b)
theorem B1d{l:OpenLaw}{n:Nat}(hn:l.most=some n){P:Params}{h:Heap}{args:List WData}{vals:List Value}
   (hpre:l.row.toRowW.claim.pre args=true) (hwl:WellAll P h vals args):
   ∃a vs ns,vals=[Value.ref a]/\args=[WData.list (ns.map WData.int)]/\h.get? a=some {cls:= .type "list",data:= .seq vs.toArray}/\IntsAre vs ns/\ns.length<=n:=by
 have hsh:WShape.hasAll [] args [.list .int]=true:=(pre_splitW hpre).1
 have hc:l.pre.holds [] {args:=args}=true:=(pre_splitW hpre).2
 obtain⟨d,r,rfl,h1,h2⟩:=hasAllW_cons hsh
 obtain rfl:=hasAllW_nil h2
 obtain⟨xs,rfl,h3⟩:=hasW_list h1
 obtain⟨ns,rfl⟩:=items_int h3
 have hlen:ns.length<=n:=by
   unfold OpenLaw.pre at hc
   have h4:(WTm.not (.lt (.lit (.int (n:Int))) (.len (.arg 0)))).holds [] {args:=[.list (ns.map .int)]}=true:=by
     have h4:=(holds_andW hc).1
     rw[hn] at h4
     exact h4
   have h5:=condW_of h4 (w_not (w_lt w_lit (w_len_list (w_arg rfl))))
   rw[List.length_map] at h5
   refine Nat.le_of_not_lt fun q=>?_
   have q':(n:Int)<((ns.length:Nat):Int):=by omega
   first
     |(rw[decide_eq_true q'] at h5;exact absurd h5 (by decide))
     |(simp at h5;omega)
 cases hwl with
 | cons w1 w2=>
   cases w2
   cases w1 with
   |list ho hall=>exact⟨_,_,ns,rfl,rfl,ho,A2q ns _ hall,hlen⟩
theorem B1e(l:OpenLaw)(args:List WData):l.row.toRowW.claim.post args (.bool true) args=true:=
 postW_of (r:=l.row.toRowW) (X:=(true==true))
   (show WShape.has [] (.bool true) .bool=true by first|rfl|decide|simp[WShape.has,WShape.arms,WShape.armsAll])
   (show(WTm.eq .res (.lit (.bool true))).value [] {args:=args,res:=some (.bool true),after:=args}=some (.bool (true==true)) from w_eq_bool (w_res rfl) w_lit) rfl
theorem attach_call{l:OpenLaw}{n:Nat}{q:Program}{loose:List Str}{XP:(Str ->Option Value) ->Heap ->Prop}{YP:World ->Heap ->Prop}{d:DefRec}
   (hn:l.most=some n) (hdf:d.params.defaults=[])
   (call:∀(w:World) (s₀ s₁:Shared) (mg mb:Str ->Option Value) (fa:Addr) (o:Obj) (pm cd doc:Value) (a:Addr) (vs:List Value) (ns:List Int),
     Ground q loose [] XP w s₀ mg mb s₁.heap ->YP w s₁.heap ->
     s₁.heap.get? fa=some o ->o.data= .func (docDef d.name d.params d.body d.scope pm cd doc) ->s₁.heap.CodeRec cd d.name ->mg d.name=some (.ref fa) ->
     s₁.heap.get? a=some {cls:= .type "list",data:= .seq vs.toArray} ->IntsAre vs ns ->ns.length<=n ->s₁.gens= #[] ->
     codeAny (model l.prog w) callerA (.call (.ref fa) ⟨[.ref a],[]⟩) (fun r s'=>r= .ok (.ret (.bool true))/\OldK s₁.heap s'.heap/\s'.os=s₁.os/\AllBare s'.gens) s₁):
   WalkO q loose XP YP l.row.toRowW d [] (fun f vs=>PySem.call f vs):=by
 intro w s₀ s₁ mg mb G Y fa o pm cd doc dV kV ho hd hcd hD hmg hg args vals as hpre hlay hrd hwl hlo
 obtain rfl:dV= .none:=Dflts.none hD hdf
 obtain rfl:kV= .none:=Dflts.noKw hD
 obtain⟨a,vs,ns,rfl,rfl,hobj,hints,hlen⟩:=B1d hn hpre hwl
 refine enter_call (codeAny_mono (call w s₀ s₁ mg mb fa o pm cd doc a vs ns G Y ho (fd_plain hd) hcd hmg hobj hints hlen hg) fun r s' hq=>?_)
 obtain⟨rfl,h2,h3,h4⟩:=hq
 exact⟨.inl ⟨.bool true,.bool true,[],rfl,fun _=>rfl,.bool true,B1e l _,fun _=>⟨List.Pairwise.nil,fun _ hm=>(nomatch hm)⟩⟩,h2,h3,h4⟩
section
variable{prog:Program}{w:World}{A:Around}{E:Value ->Shared ->Prop}{s:Shared}{K:Frag}
end
end Att
namespace L2
open PySem PySem.Spec PyProof.Rows
theorem A4k:∀{vs:List Value} {ns:List Int},IntsAre vs ns ->Vals (ns.map V.int) vs
 |_,_,.nil=> .nil
 |_,_,.cons n t h=> .cons ⟨t,rfl⟩ (A4k h)
noncomputable def B9b (H:Hp):Prop:=∀b,H b=none\/∃o xs,H b=some (.frz o (.lst xs))
theorem B2s{P:Program}{w:World}{K:PySem.W.Frag}{mg mb:Str ->Option Value}{CX:CXT}{k:Nat}{fa a:Addr}{fd:FuncData}{x:Str}{sp:Sp}{s₁:Shared}{vs:List Value}{ns:List Int}
   (KX:K.In s₁.heap) (hns:s₁.heap.Ns mainGlobals mg) (hb:s₁.heap.Ns builtinsNs mb) (hbb:∀x:Str,x≠"__name__" ->mb x=bootBuiltins x) (hlim:s₁.heap.NoLimit) (hg:s₁.gens= #[])
   (ha:s₁.heap.get? a=some {cls:= .type "list",data:= .seq vs.toArray}) (hi:IntsAre vs ns) (hl:ns.length<=sizeLine) (hr:Room k callerA)
   (F:∀base:Heap,K.In base ->base.Ns mainGlobals mg ->FnOk P w K mg base CX k fa fd [x] sp) (hbind:∀(s:Shared) (u:Value),BindsTo s fd ⟨[u],[]⟩ [(x,u)])
   (hsp:∀H:Hp,B9b H ->SqL K H a (ns.map V.int) ->sp [.ref a] H (fun v _=>v= .bl true) fun _ _ _=>False)
   (hCX:∀H e s',CX [] H s₁ (fun _ _ _=>False) e s' ->False):
   codeAny (model P w) callerA (.call (.ref fa) ⟨[.ref a],[]⟩) (fun r s'=>r= .ok (.ret (.bool true))/\OldK s₁.heap s'.heap/\s'.os=s₁.os/\AllBare s'.gens) s₁:=by
 have rv:=A4k hi
 have lenV:=hi.length
 have core :∀H:Hp,B9b H ->SqL K H a (ns.map V.int) ->HOk P w H s₁.heap ->(∀b,H b≠none ->b=a) ->(H a≠none ->K.lookup a=none) ->
     codeAny (model P w) callerA (.call (.ref fa) ⟨[.ref a],[]⟩) (fun r s'=>r= .ok (.ret (.bool true))/\OldK s₁.heap s'.heap/\s'.os=s₁.os/\AllBare s'.gens) s₁:=by
   intro H hO hS hok hA hK
   have base_of:∀{b:Addr} {o:Obj},s₁.heap.get? b=some o ->H b=none ->(A5k s₁.heap H).get? b=some o:=fun e n=>B4v e n
   have noA:∀{b:Addr} {o:Obj} {es:Array DictEntry} {ep:Nat},s₁.heap.get? b=some o ->o.data= .dict es ep ->H b=none:=fun{b o es ep} e d=>by
     cases q:H b with
     |none=>rfl
     | some u=>
       have e':b=a:=hA b (by rw[q];simp)
       subst e'
       rw[ha] at e;cases e
       have d':Data.seq vs.toArray _=Data.dict es ep:=d
       cases d'
   have nsK:∀{b:Addr} {m:Str ->Option Value},s₁.heap.Ns b m ->(A5k s₁.heap H).Ns b m:=fun{b m} ⟨o,es,ep,e,d,r⟩=>⟨o,es,ep,base_of e (noA e d),d,r⟩
   have hKb:K.In (A5k s₁.heap H):=fun b o e=>base_of (KX b o e) (by
     cases q:H b with
     |none=>rfl
     | some u=>
       have e':b=a:=hA b (by rw[q];simp)
       subst e'
       rw[hK (by rw[q];simp)] at e;cases e)
   have hM:Mod K mg (A5k s₁.heap H):=⟨hKb,nsK hns,⟨mb,nsK hb,hbb⟩,let⟨mc,h1,h2⟩:=hlim;⟨mc,nsK h1,h2⟩⟩
   have e0:Env0 P w K mg (A5k s₁.heap H) callerA [] s₁ H:=⟨rfl,hM,fun b o e=>B5w e,Nat.le_of_eq (B1s _ _),trivial,fun b hb=>absurd (show b∈([]:List Addr) from hb) (by simp),hok,.of_eq hg⟩
   refine codeAny_mono ((F _ hKb (nsK hns)).run callerA [] s₁ H ⟨[.ref a],[]⟩ [.ref a] [.ref a] _ _ hr e0 (hbind s₁ (.ref a)) (.cons rfl .nil) (hsp H hO hS)) fun r s' h=>?_
   cases r with
   |error e=>exact(hCX H e s' h).elim
   | ok fl =>
     cases fl with
     |next=>exact False.elim h
     |brk=>exact False.elim h
     |cont=>exact False.elim h
     | ret u=>
       obtain⟨v,H',os,bare,un,hok',r',q⟩:=h
       have q':v= .bl true:=q
       subst q'
       obtain rfl:u=Value.bool true:=r'
       refine⟨rfl,OldK.of_keep fun b o e=>?_,os,bare⟩
       cases q:H b with
       |none=>exact un.keep b o e q (by intro z;exact absurd (show b∈([]:List Addr) from z) (by simp)) (by simp)
       | some u=>
         rcases hO b with z|⟨ob,xs,z⟩
         . rw[q] at z;cases z
         . have z2:=un.frzs b ob _ z
           obtain⟨e1,_⟩:=hok b _ z
           obtain⟨e2,_⟩:=hok' b _ z2
           rw[e] at e1;cases e1
           exact e2
 cases hk:K.lookup a with
 | some o=>
   have e:=KX a o hk
   rw[ha] at e
   cases e
   refine core (fun _=>none) (fun _=> .inl rfl) (.inr ⟨_,vs.toArray,_,hk,rfl,rfl,rfl,by rw[List.size_toArray,lenV];exact hl,by simpa using rv⟩) (fun b u z=>by have z':(none:Option HO)=some u:=z;cases z') (fun b z=>absurd rfl z) fun z=>absurd rfl z
 | none=>
   refine core (fun b=>if b=a then some (.frz {cls:= .type "list",data:= .seq vs.toArray} (.lst (ns.map V.int))) else none) (fun b=>?_) (.inl (.inr ⟨{cls:= .type "list",data:= .seq vs.toArray},if_pos rfl⟩)) (fun b u z=>?_) (fun b z=>?_) fun _=>hk
   . by_cases hb:b=a
     . exact .inr ⟨_,_,if_pos hb⟩
     . exact .inl (if_neg hb)
   . by_cases hb:b=a
     . have z':=(if_pos hb).symm.trans z
       cases z'
       subst hb
       exact⟨ha,by rw[List.length_map];exact hl,vs,_,rv,ha⟩
     . have z':=(if_neg hb).symm.trans z
       cases z'
   . by_cases hb:b=a
     . exact hb
     . exact absurd (if_neg hb) z
theorem walk_of{l:PySem.W.OpenLaw}{n k:Nat}{q:Program}{loose:List Str}{XP:(Str ->Option Value) ->Heap ->Prop}{YP:World ->Heap ->Prop}{d:DefRec}{K:Params ->PySem.W.Frag}{CX:World ->CXT}{sp:World ->Sp}{x:Str}
   (hn:l.most=some n) (hn2:n<=sizeLine) (hdf:d.params.defaults=[]) (hr:Room k callerA)
   (hY:∀(w:World) (h:Heap),YP w h ->(K w.params).In h)
   (F:∀(w:World) (mg:Str ->Option Value) (fa:Addr) (h:Heap),(K w.params).In h ->h.Ns mainGlobals mg ->mg d.name=some (.ref fa) ->
     ∃ fd:FuncData,(∀(s:Shared) (u:Value),BindsTo s fd ⟨[u],[]⟩ [(x,u)])/\
       ∀base:Heap,(K w.params).In base ->base.Ns mainGlobals mg ->FnOk l.prog w (K w.params) mg base (CX w) k fa fd [x] (sp w))
   (hsp:∀(w:World) (H:Hp) (a:Addr) (ns:List Int),ns.length<=n ->B9b H ->SqL (K w.params) H a (ns.map V.int) ->sp w [.ref a] H (fun v _=>v= .bl true) fun _ _ _=>False)
   (hCX:∀(w:World) (H:Hp) (s:Shared) (e:Value) (s':Shared),CX w [] H s (fun _ _ _=>False) e s' ->False):
   PySem.W.WalkO q loose XP YP l.row.toRowW d [] (fun f vs=>PySem.call f vs):=by
 refine Att.attach_call hn hdf fun w s₀ s₁ mg mb fa o pm cd doc a vs ns G Y ho hd hcd hmg hobj hints hlen hg=>?_
 have KX:=hY w _ Y
 obtain⟨fd,hb,hF⟩:=F w mg fa _ KX G.T.g hmg
 exact B2s KX G.T.g G.T.b G.T.builtins G.T.nolimit hg hobj hints (Nat.le_trans hlen hn2) hr hF hb (fun H hO hS=>hsp w H a ns hlen hO hS) fun H e s'=>hCX w H s₁ e s'
noncomputable def B5y (s:Stmt) (j:Nat):Stmt:=match s with
 | .ClassDef _ _ _ body _ _ _ _ _ _ _=>body.getD j (.Pass ⟨0,0,0,0⟩)
 |_=> .Pass ⟨0,0,0,0⟩
noncomputable def D7 (s:Stmt):Arguments:=match s with
 | .FunctionDef _ a _ _ _ _ _ _ _ _=>a
 |_=>{posonlyargs:=[],args:=[],vararg:=none,kwonlyargs:=[],kw_defaults:=[],kwarg:=none,defaults:=[]}
noncomputable def D5 (s:Stmt):List Stmt:=match s with
 | .FunctionDef _ _ b _ _ _ _ _ _ _=>b
 |_=>[]
noncomputable def A6 (s:Stmt):Scope:=match s with
 | .FunctionDef _ _ _ _ _ _ sc _ _ _=>sc
 |_=>{kind:= .function,names:=[],isGenerator:=false,isCoroutine:=false}
noncomputable abbrev CX0:CXT:=fun _ _ _ _ _ _=>False
noncomputable abbrev E0:XK:=fun _ _ _=>False
theorem B3r{X:Cx}:A8g CX0 X E0:=fun _ _ _ _ _ _ _ h=>h.elim
structure Fun(K:PySem.W.Frag)(x qual:Str)(st:Stmt)(f:Addr)(fd:FuncData):Prop where
 ex:∃(oc:Value) (od:Option Addr) (kV doc pm:Value) (an:Option Addr) (cdv ct:Value) (osl:Array (Option Value)),
   fd=PySem.W.fnOf x qual (D7 st) (D5 st) (A6 st) .none kV doc pm an cdv ct/\K.lookup f=some ⟨oc,od,.func fd,osl⟩/\PySem.W.codeIn K cdv qual=true
 kp:PySem.W.keepIn K (.ref f)=true
section
variable{P:Program}{w:World}{K:PySem.W.Frag}{mg:Str ->Option Value}{base:Heap}
theorem Fun.ok{x qual:Str}{st:Stmt}{f:Addr}{fd:FuncData}{N ps:List Str}{k:Nat}{sp:Sp}(F:Fun K x qual st f fd)(S:FnScope N ps (A6 st))(len:∀vs H Q E,sp vs H Q E ->vs.length=ps.length)
   (hbody:∀(cdv:Value) (A:Around) (outer:List Env) (s:Shared) (H:Hp) (vs:List V) (Q:VK) (E:XK),Room k (A.deeper (envOfC qual (A6 st) s.heap.objs.size f cdv)) ->sp vs H Q E ->
     ∃t,PSs (A3s CX0 P w K mg base N qual (A6 st) f cdv A outer s H E).nox (D5 st) t/\t {nx:=fun _ H'=>Q .non H',rt:=Q} (A1d N vs) H):FnOk P w K mg base CX0 (k+1) f fd ps sp:=by
 obtain⟨oc,od,kV,doc,pm,an,cdv,ct,osl,rfl,lk,hcd⟩:=F.ex
 refine B7z lk hcd S len fun A outer s H vs Q E hr hsp=>?_
 obtain⟨t,h,q⟩:=hbody cdv A outer s H vs Q E hr hsp
 exact⟨t,h.nox,q⟩
theorem Fun.binds{x qual:Str}{st:Stmt}{f:Addr}{fd:FuncData}{ps:List Str}(F:Fun K x qual st f fd)
   (h:∀(kV doc pm:Value) (an:Option Addr) (cdv ct:Value) (us:List Value),us.length=ps.length ->bindArgs (PySem.W.fnOf x qual (D7 st) (D5 st) (A6 st) .none kV doc pm an cdv ct) ⟨us,[]⟩=pure (ps.zip us)):Binds K fd ps []:=by
 obtain⟨oc,od,kV,doc,pm,an,cdv,ct,osl,rfl,lk,hcd⟩:=F.ex
 exact .all (h kV doc pm an cdv ct)
theorem A7v{x qual:Str}{st:Stmt}{f:Addr}{oc:Value}{od an:Option Addr}{osl:Array (Option Value)}{kV doc pm cdv ct:Value}(l:K.lookup f=some ⟨oc,od,.func (PySem.W.fnOf x qual (D7 st) (D5 st) (A6 st) .none kV doc pm an cdv ct),osl⟩)
   (c:PySem.W.codeIn K cdv qual=true) (k:PySem.W.keepIn K (.ref f)=true):Fun K x qual st f (PySem.W.fnOf x qual (D7 st) (D5 st) (A6 st) .none kV doc pm an cdv ct):=⟨⟨oc,od,kV,doc,pm,an,cdv,ct,osl,rfl,l,c⟩,k⟩
end
theorem U8{n:Nat}(h:n<=1000):n<sizeLine:=Nat.lt_of_le_of_lt h (by decide)
section
variable{X:Cx}
theorem pv(i:Nat){x:Str}{pos:Pos}(hN:X.N[i]?=some x:=by rfl)(hv:Vis X.env.scope x:=by first|exact Or.inl rfl|exact Or.inr (Or.inl rfl)|exact Or.inr (Or.inr rfl))(hd:(x==("__debug__":Str))=false:=by decide)
   (hcd:(x==("__classdict__":Str))=false:=by decide):PE X (.Name x pos) (B3q i):=B8h hN hv hd hcd
end
theorem U6{A B:Prop}(h:B):if false=true then A else B:=by
 rw[if_neg Bool.false_ne_true]
 exact h
theorem Z9{A B:Prop}(h:A):if true=true then A else B:=by
 rw[if_pos rfl]
 exact h
noncomputable def Same (H H':Hp):Prop:=∀b o,H b=some o ->H' b=some o
theorem Same.refl(H:Hp):Same H H:=fun _ _ h=>h
theorem Same.trans{H H1 H2:Hp}(a:Same H H1)(b:Same H1 H2):Same H H2:=fun c o h=>b c o (a c o h)
theorem Same.free{H H':Hp}(e:Same H H'){l:Addr}(h:H' l=Option.none):H l=Option.none:=by
 cases q:H l with
 |none=>rfl
 | some o=>
   rw[e l o q] at h
   cases h
theorem Same.seq{K:PySem.W.Frag}{H H':Hp}{a:Addr}{xs:List V}(e:Same H H')(h:SqL K H a xs):SqL K H' a xs:=by
 rcases h with(h|⟨o,h⟩)|h
 . exact .inl (.inl (e _ _ h))
 . exact .inl (.inr ⟨o,e _ _ h⟩)
 . exact .inr h
end L2
set_option maxHeartbeats 4000000
namespace L2
open PySem PySem.Spec PyProof.Rows
noncomputable abbrev Z6 (C:Value) (t:Addr) (dd:Option Addr) (tb:Value):Obj:=
 {cls:=C,dict:=dd,data:= .fields #[.ref t,tb,.none,.none,.bool false,.none]}
structure Noted(fs:List Addr)(h h':Heap)(a:Addr)(C:Value)(t:Addr)(dd:Option Addr)(T:Addr)(fl:Value):Prop where
 keep:∀b o,b ∉ fs ->b≠a ->h.get? b=some o ->h'.get? b=some o
 slot:∀b o,b≠a ->h.get? b=some o ->∃sl,h'.get? b=some {o with slots:=sl}
 new:h.get? T=none
 ne:T≠a
 exc:h'.get? a=some (Z6 C t dd (.ref T))
 tbk:∃oT ts,h'.get? T=some oT/\oT.data= .fields ts/\ts[3]?=some fl
section
variable{M:Model}{A:Around}{E:Value ->Shared ->Prop}{s:Shared}{base:Heap}{env:Env}{outer:List Env}{L a t:Addr}{C:Value}{dd:Option Addr}{tb:Value}{Q:Unit ->Shared ->Prop}
theorem B6s{oa:Obj}{vs:Array Value}{l:List Env}(hl:s.heap.FunFrames base l)(ha:s.heap.get? a=some oa)(hd:oa.data= .fields vs):a ∉ l.filterMap (·.frame):=by
 intro hm
 obtain⟨_,o,ho,hn⟩:=hl.mem hm
 rw[ha] at ho
 cases ho
 exact hn vs hd
theorem B0g{head:Value}{hn:Bool}(hfr:A.frames=some (env::outer))(hl:s.heap.FunFrames base (env::outer))(hf:env.frame=some L)
   (ha:s.heap.get? a=some (Z6 C t dd tb))
   (h:∀h' T,Noted ((env::outer).filterMap (·.frame)) s.heap h' a C t dd T (rawInt L) ->Q () {s with heap:=h'}):
   wpAny M A (do
     let x<-frameOf env
     let pl<-entryPlaceOf L hn
     let b<-EntryCells.newEntry head x .none (rawInt L) .none pl
     setField (.ref a) 1 b) Q E s:=by
 have na:=B6s hl ha rfl
 refine wpAny_bind (wpAny_frameOf_fun hfr hl hf fun g hg=>?_)
 refine wpAny_bind (wpAny_entryPlaceOf fun pl hpl=>?_)
 unfold EntryCells.newEntry newFields
 refine wpAny_bind (wpAny_newObj_type ?_ (hpl.sizeOk5 _ _ _ _ _))
 have a1:g.get? a=some (Z6 C t dd tb):=(hg.2.1 a na).trans ha
 have a2:=fun(z:Obj)=>Heap.get?_push_of_some (h:=g) z a1
 have nT:g.objs.size≠a:=Nat.ne_of_gt (Heap.lt_size a1)
 refine wpAny_setField (a2 _) rfl (by show 1<6;decide) (h _ g.objs.size ?_)
 have up:∀(z:Obj) (f:Obj ->Obj) b o,b≠a ->g.get? b=some o ->((g.push z).update a f).get? b=some o:=by
   intro z f b o hb e
   rw[Heap.get?_update_other _ _ (Ne.symm hb)]
   exact Heap.get?_push_of_some _ e
 refine⟨fun b o hb hba e=>up _ _ b o hba ((hg.2.1 b hb).trans e),fun b o hba e=>?_,?_,nT,?_,?_⟩
 . obtain⟨sl,e1⟩:=hg.2.2 b o e
   exact⟨sl,up _ _ b _ hba e1⟩
 . refine Heap.get?_none_of_le ?_
   rw[hg.1]
   exact Nat.le_refl _
 . exact Heap.get?_update_self _ (a2 _) rfl
 . refine⟨_,_,(Heap.get?_update_other _ _ (Ne.symm nT)).trans (Heap.get?_push_size _ rfl),rfl,?_⟩
   first
     |(simp;done)
     |(rcases hpl with rfl|⟨_,_,_,_,_,_,_,rfl⟩<;>simp)
noncomputable def B8j (h:Heap) (a:Addr) (tb:Value):Prop:=tb= .none\/∃T oT ts,tb= .ref T/\T≠a/\h.get? T=some oT/\oT.data= .fields ts/\ts[3]?=some .none
theorem C0c(hfr:A.frames=some (env::outer))(hl:s.heap.FunFrames base (env::outer))(hf:env.frame=some L)
   (ha:s.heap.get? a=some (Z6 C t dd tb)) (ht:B8j s.heap a tb)
   (h:∀h' T,(∀b o,b ∉ (env::outer).filterMap (·.frame) ->b≠a ->tb≠ .ref b ->s.heap.get? b=some o ->h'.get? b=some o) ->
     (∀b o,b≠a ->tb≠ .ref b ->s.heap.get? b=some o ->∃sl,h'.get? b=some {o with slots:=sl}) ->s.heap.get? T=none ->T≠a ->
     h'.get? a=some (Z6 C t dd (.ref T)) ->(∃oT ts,h'.get? T=some oT/\oT.data= .fields ts/\ts[3]?=some (rawInt L)) ->Q () {s with heap:=h'}):
   wpAny M A (noteFrame (.ref a) env) Q E s:=by
 unfold noteFrame
 simp only[hf]
 refine wpAny_bind (wpAny_field ha rfl (x:=tb) rfl ?_)
 rcases ht with rfl|⟨T,oT,ts,rfl,nT,hT,dT,h3⟩
 . rw[if_neg (by decide)]
   refine B0g hfr hl hf ha fun h' T N=>?_
   exact h h' T (fun b o hb hba _ e=>N.keep b o hb hba e) (fun b o hba _ e=>N.slot b o hba e) N.new N.ne N.exc N.tbk
 . rw[if_pos (show(Value.ref T !=Value.none)=true by simp)]
   refine wpAny_bind (wpAny_field hT dT h3 ?_)
   rw[if_neg (show¬((Value.none==rawInt L)=true) by simp[rawInt])]
   refine wpAny_bind (wpAny_setField hT dT (Array.getElem?_eq_some_iff.mp h3).1 ?_)
   have oth:∀(f:Obj ->Obj) b,b≠T ->(s.heap.update T f).get? b=s.heap.get? b:=fun f b hb=>Heap.get?_update_other _ _ (Ne.symm hb)
   have nrec:∀b o,s.heap.get? b=some o ->(∀vs,o.data≠ .fields vs) ->b≠T:=by
     intro b o e hn q
     rw[q,hT] at e
     cases e
     exact hn ts dT
   refine B0g (s:={s with heap:=_}) hfr (hl.of_keeps fun b o e hn=>⟨o,(oth _ b (nrec b o e hn)).trans e,rfl⟩) hf ((oth _ a (Ne.symm nT)).trans ha) fun h' T' N=>?_
   have neb:∀b,Value.ref T≠Value.ref b ->b≠T:=fun b q z=>q (by rw[z])
   refine h h' T' (fun b o hb hba hbT e=>N.keep b o hb hba ((oth _ b (neb b hbT)).trans e)) (fun b o hba hbT e=>N.slot b o hba ((oth _ b (neb b hbT)).trans e)) ?_ N.ne N.exc N.tbk
   have nw:=N.new
   by_cases q:T'=T
   . subst q
     have:=Heap.get?_update_self (Obj.mapFields (·.setIfInBounds 3 Value.none)) hT (Obj.isFreed_of_fields (Obj.data_mapFields dT _))
     rw[nw] at this
     cases this
   . rw[oth _ T' q] at nw
     exact nw
theorem B9f{T:Addr}{oT:Obj}{ts:Array Value}{fl:Value}(ha:s.heap.get? a=some (Z6 C t dd (.ref T)))(nT:T≠a)(hT:s.heap.get? T=some oT)(dT:oT.data= .fields ts)(h3:ts[3]?=some fl)
   (h:∀h',(∀b o,b≠T ->s.heap.get? b=some o ->h'.get? b=some o) ->B8j h' a (.ref T) ->Q () {s with heap:=h'}):wpAny M A (setFlight (.ref a) none) Q E s:=by
 have sz:3<ts.size:=(Array.getElem?_eq_some_iff.mp h3).1
 unfold setFlight
 refine wpAny_bind (wpAny_field ha rfl (x:= .ref T) rfl ?_)
 rw[if_pos (show(Value.ref T !=Value.none)=true by simp)]
 refine wpAny_setField hT dT sz (h _ (fun b o hb e=>(Heap.get?_update_other _ _ (Ne.symm hb)).trans e) ?_)
 have d2:=Obj.data_mapFields dT (·.setIfInBounds 3 ((none:Option Addr).elim Value.none fun f=>rawInt f))
 exact .inr ⟨T,_,_,rfl,nT,Heap.get?_update_self _ hT (Obj.isFreed_of_fields d2),d2,by simp[sz]⟩
end
noncomputable def Hd (A:Around) (h:Heap):Prop:=A.handled=none\/∃x ox vs,A.handled=some (.ref x)/\h.get? x=some ox/\ox.data= .fields vs/\vs[2]?=some .none
theorem A4g : entryFor table "proto.unchain" = some Builtin.«proto.unchain» := entryFor_of_tree (by kernel_rfl)
section
variable{prog:Program}{w:World}{A:Around}{E:Value ->Shared ->Prop}{s:Shared}
theorem Hd.keeps{h h':Heap}(x:Hd A h)(k:∀b o,h.get? b=some o ->h'.get? b=some o):Hd A h':=by
 rcases x with z|⟨x,ox,vs,z,e,d,n⟩
 . exact .inl z
 . exact .inr ⟨x,ox,vs,z,k x ox e,d,n⟩
theorem A6v{α:Type}{a:Addr}{oa:Obj}{ws:Array Value}{h₀:Heap}{Q:α ->Shared ->Prop}(hd:Hd A h₀)(k:∀b o,h₀.get? b=some o ->s.heap.get? b=some o)(na:h₀.get? a=none)
   (ha:s.heap.get? a=some oa) (da:oa.data= .fields ws) (h2:2<ws.size)
   (h:∀h',(∀b o,b≠a ->s.heap.get? b=some o ->h'.get? b=some o) ->(∃o',h'.get? a=some o'/\o'.cls=oa.cls) ->E (.ref a) {s with heap:=h'}):
   wpAny (model prog w) A (raiseNew (.ref a):Sem α) Q E s:=by
 unfold raiseNew
 refine wpAny_bind (wpAny_handled ?_)
 rcases hd with z|⟨x,ox,vs,z,e,d,n⟩
 . rw[z]
   exact wpAny_bind (wpAny_pure (wpAny_throw (h _ (fun b o _ e=>e) ⟨_,ha,rfl⟩)))
 . rw[z]
   have nx:x≠a:=by
     intro q
     rw[q,na] at e
     cases e
   dsimp only
   rw[if_pos (show(Value.ref x !=Value.ref a)=true by simpa using nx)]
   refine wpAny_bind (wpAny_holding (wpAny_runValue (codeAny_builtin A4g ?_)))
   unfold Builtin.«proto.unchain»
   dsimp only
   refine wpAny_bind (wpAny_field (k x ox e) d n ?_)
   rw[if_pos (by decide)]
   refine wpAny_pure ?_
   dsimp only
   unfold updateField
   refine wpAny_bind (wpAny_bind (wpAny_load ha ?_))
   rw[da]
   dsimp only
   rw[if_pos h2]
   refine wpAny_update ha (wpAny_throw (h _ (fun b o hb e=>(Heap.get?_update_other _ _ (Ne.symm hb)).trans e) ⟨_,Heap.get?_update_self _ ha (Obj.isFreed_of_fields (Obj.data_mapFields da _)),Obj.cls_mapFields _ _⟩))
theorem B0c{α:Type}{Q:α ->Shared ->Prop}(hd:Hd A s.heap)
   (h:∀h' e,(∀b o,s.heap.get? b=some o ->h'.get? b=some o) ->({s with heap:=h'}:Shared).TypeIs (.ref e) "StopIteration" ->E (.ref e) {s with heap:=h'}):
   wpAny (model prog w) A (newExc (.type "StopIteration") []>>=fun e=>(raiseNew e:Sem α)) Q E s:=by
 refine wpAny_bind ?_
 simp only[newExc,newTuple]
 refine wpAny_bind (wpAny_newObj_type ?_ (by size_fits));refine wpAny_bind (m:=firstArgMember _ _) (wpAny_of_eq (a:=Value.none) (by first|rfl|(simp only[firstArgMember];rfl)) ?_)
 refine wpAny_newObj_type ?_ (by size_fits);dsimp only
 have k1:∀(z:Obj) b o,s.heap.get? b=some o ->(s.heap.push z).get? b=some o:=fun z b o e=>Heap.get?_push_of_some _ e
 have k2:∀(z y:Obj) b o,s.heap.get? b=some o ->((s.heap.push z).push y).get? b=some o:=fun z y b o e=>Heap.get?_push_of_some _ (Heap.get?_push_of_some _ e)
 have nw:∀(z:Obj),s.heap.get? (s.heap.push z).objs.size=none:=fun z=>Heap.get?_none_of_le (by rw[Heap.size_push];exact Nat.le_succ _)
 refine A6v (s:={s with heap:=_}) (h₀:=s.heap) hd (k2 _ _) (nw _) (Heap.get?_push_size _ rfl) rfl (by show 2<6;decide) fun h' k ⟨o',e',c'⟩=>h h' _ (fun b o e=>?_) ⟨o',e',c'⟩
 refine k b o ?_ (k2 _ _ b o e)
 intro q;rw[q,nw] at e;cases e
theorem A1u{it l:Addr}{i:Nat}{items:Array Value}{Q:Option Value ->Shared ->Prop}(hd:∀h':Heap,Heap.ExtBut it s.heap h' ->Hd A h')
   (hit:s.heap.IsListIter it l i) (hl:s.heap.IsList l items) (hx:items[i]?=none)
   (hQ:∀h',Heap.ExtBut it s.heap h' ->Q none {s with heap:=h'}):wpAny (model prog w) A (pyNext (.ref it)) Q E s:=by
 obtain⟨o,ho,hc,dt⟩:=id hit
 obtain⟨ol,hol,_,nl,dl⟩:=hl
 unfold pyNext
 refine wpAny_bind (wpAny_attempt (wpAny_callSpecial?_slot (name:=Str.ofString "__next__") hit.typeIs slot_listiter_next (wpAny_call_entry slot_listiter_next hit.typeIs entry_listiter_next ?_ (args_listiter_next _))))
 show wpAny _ _ (field (.ref it) 0>>=_) _ _ _;refine wpAny_bind (wpAny_field ho dt (x:= .ref l) rfl ?_)
 show wpAny _ _ (if(Value.ref l==Value.none)=true then _ else _) _ _ _;rw[if_neg (show¬((Value.ref l==Value.none)=true) by simp)]
 show wpAny _ _ (field (.ref it) 1>>=_) _ _ _;refine wpAny_bind (wpAny_field ho dt (x:= .int i 0) rfl ?_)
 show wpAny _ _ (seqItems? (.ref l)>>=_) _ _ _;refine wpAny_bind (wpAny_seqItems hol dl ?_)
 simp only[Int.toNat_natCast,hx]
 refine wpAny_bind (wpAny_rule (wpAny_bind (wpAny_setField ho dt (by simp) ?_)))
 have up:=fun f=>(Heap.SameBut.update (a:=it) (h:=s.heap) (f:=f)).extBut
 refine B0c (s:={s with heap:=_}) (A:=A.in1) (hd _ (up _)) fun h' e k ty=>?_
 refine wpAny_bind (wpAny_isInstance (T:="StopIteration") (b:=true) ty isSubtype_stop ?_)
 exact wpAny_pure (hQ h' fun b o hb z=>k b o (up _ b o hb z))
theorem Z5{it t:Addr}{i:Nat}{items:Array Value}{Q:Option Value ->Shared ->Prop}(hd:∀h':Heap,Heap.ExtBut it s.heap h' ->Hd A h')
   (hit:IsTupIter s.heap it t i) (hl:IsTup s.heap t items) (hx:items[i]?=none)
   (hQ:∀h',Heap.ExtBut it s.heap h' ->Q none {s with heap:=h'}):wpAny (model prog w) A (pyNext (.ref it)) Q E s:=by
 obtain⟨o,ho,hc,dt⟩:=id hit
 obtain⟨ol,hol,_,nl,dl⟩:=hl
 unfold pyNext
 refine wpAny_bind (wpAny_attempt (wpAny_callSpecial?_slot (name:=Str.ofString "__next__") hit.typeIs slot_tupleiter_next (wpAny_call_entry slot_tupleiter_next hit.typeIs entry_tupleiter_next ?_ (args_tupleiter_next _))))
 show wpAny _ _ (field (.ref it) 0>>=_) _ _ _;refine wpAny_bind (wpAny_field ho dt (x:= .ref t) rfl ?_)
 show wpAny _ _ (if(Value.ref t==Value.none)=true then _ else _) _ _ _;rw[if_neg (show¬((Value.ref t==Value.none)=true) by simp)]
 show wpAny _ _ (field (.ref it) 1>>=_) _ _ _;refine wpAny_bind (wpAny_field ho dt (x:= .int i 0) rfl ?_)
 show wpAny _ _ (seqItems? (.ref t)>>=_) _ _ _;refine wpAny_bind (wpAny_seqItems hol dl ?_)
 simp only[Int.toNat_natCast,hx]
 refine wpAny_bind (wpAny_rule (wpAny_bind (wpAny_setField ho dt (by simp) ?_)))
 have up:=fun f=>(Heap.SameBut.update (a:=it) (h:=s.heap) (f:=f)).extBut
 refine B0c (s:={s with heap:=_}) (A:=A.in1) (hd _ (up _)) fun h' e k ty=>?_
 refine wpAny_bind (wpAny_isInstance (T:="StopIteration") (b:=true) ty isSubtype_stop ?_)
 exact wpAny_pure (hQ h' fun b o hb z=>k b o (up _ b o hb z))
theorem B1t{t:Addr}{items:Array Value}{targets:List (Bool×(Value ->Sem Unit))}{Q:Unit ->Shared ->Prop}(hd:Hd A s.heap)(ht:IsTup s.heap t items)
   (hn:targets.length=items.size) (hst:targets.findIdx? (·.1)=none)
   (h:∀h',Heap.ExtBut s.heap.objs.size s.heap h' ->wpAny (model prog w) A (assignInOrder (targets.map (·.2)) items.toList) Q E {s with heap:=h'}):
   wpAny (model prog w) A (unpack (.ref t) targets) Q E s:=by
 have ne:t≠s.heap.objs.size:=by obtain⟨o,ho,_⟩:=ht;exact Nat.ne_of_lt (Heap.lt_size ho)
 unfold unpack
 rw[hn,hst]
 refine wpAny_bind (wpAny_holding ?_)
 unfold unpackItems
 refine wpAny_bind ?_
 unfold notIterableAtAll
 refine wpAny_bind (wpAny_specialOf ht.typeIs slot_tuple_iter.lookup (wpAny_pure ?_))
 simp only[Bool.false_eq_true,if_false]
 refine wpAny_bind (wpAny_holding (iter_tuple ht (wpAny_bind (wpAny_holding (draw_tuple ne items.size 0 _ _ ⟨_,Heap.get?_push_size _ rfl,rfl,rfl⟩ (ht.push _) (by omega) fun g hit sb=>?_)))))
 have all:List.take items.size (List.drop 0 items.toList)=items.toList:=List.take_of_length_le (by simp)
 rw[all,if_neg (by simp)]
 have old:∀b o,b≠s.heap.objs.size ->s.heap.get? b=some o ->g.get? b=some o:=fun b o hb e=>sb.extBut b o hb (Heap.get?_push_of_some _ e)
 refine wpAny_bind (wpAny_holding (Z5 (fun h' k=>hd.keeps fun b o e=>?_) hit ((ht.push _).extBut sb.extBut ne) (by simp) fun h₂ he₂=>?_))
 . have nb:b≠s.heap.objs.size:=Nat.ne_of_lt (Heap.lt_size e)
   exact k b o nb (old b o nb e)
 . simp only[Option.isSome_none,Bool.false_eq_true,if_false]
   exact wpAny_pure (h h₂ fun b o hb e=>he₂ b o hb (old b o hb e))
end
theorem ObjOk.there{P:Program}{w:World}{H:Hp}{h:Heap}{a:Addr}{o:HO}(x:ObjOk P w H h a o):∃u,h.get? a=some u:=by
 cases o with
 |lst xs=>obtain⟨_,_,_,_,e⟩:=x;exact⟨_,e⟩
 |tup xs=>obtain⟨_,_,_,_,e,_⟩:=x;exact⟨_,e⟩
 |dK kvs=>obtain⟨_,_,_,_,o,_,_,e,_⟩:=x;exact⟨_,e⟩
 |dT kvs=>obtain⟨_,_,_,_,o,_,_,e,_⟩:=x;exact⟨_,e⟩
 |set S n=>obtain⟨o,_,_,_,e,_⟩:=x;exact⟨_,e⟩
 |ins C dx fs=>obtain⟨_,_,_,e,_⟩:=x;exact⟨_,e⟩
 |own y=>obtain⟨_,e⟩:=x;exact⟨_,e⟩
 |xd fs=>obtain⟨_,⟨_,_,_,e,_⟩,_⟩:=x;exact⟨_,e⟩
 |rng lo hi=>obtain⟨_,_,_,e⟩:=x;exact⟨_,e⟩
 |frz ob u=>obtain⟨e,_⟩:=x;exact⟨_,e⟩
 |tbl ps=>exact⟨_,show h.get? a=some _ from x⟩
 |met f y=>exact⟨_,show h.get? a=some _ from x⟩
 |ext φ=>obtain⟨_,e,_⟩:=x;exact e
theorem HOk.new{P:Program}{w:World}{H:Hp}{h:Heap}{a:Addr}(x:HOk P w H h)(e:h.get? a=none):H a=none:=by
 cases q:H a with
 |none=>rfl
 | some u=>
   obtain⟨o,z⟩:=(x a u q).there
   rw[e] at z
   cases z
structure Nw(X:Cx)(pins:List (Addr×Obj))(H:Hp)(b:Addr):Prop where
 un:H b=none
 loc:b≠X.env.locals
 fs:b ∉ X.fs
 old:X.s₀.heap.get? b=none
 cell:∀x c,X.env.cells.lookup x=some c ->c≠b
 pin:∀p∈X.pn++pins,p.1≠b
section
variable{X:Cx}{pins:List (Addr×Obj)}{σ:St}{H H':Hp}{s s':Shared}{a b t:Addr}{C:Value}{dd:Option Addr}
theorem Inv.fsFree(I:Inv X pins σ H s):∀b∈X.fs,H b=none:=fun b hb=>I.stkFree b (by
 rcases I.ok.stk with z|⟨z,zf⟩
 . rw[z];exact hb
 . rw[z]
   unfold frs
   rw[List.filterMap_cons,zf]
   exact List.mem_cons_of_mem _ hb)
theorem Inv.nw(I:Inv X pins σ H s)(hex:X.ex=[])(e:s.heap.get? b=none)(hu:H' b=none):Nw X pins H' b:=by
 refine⟨hu,?_,?_,?_,?_,?_⟩
 . rintro rfl
   obtain⟨m,⟨o,_,_,ho,_⟩,_⟩:=I.loc
   rw[e] at ho
   cases ho
 . intro hb
   obtain⟨_,o,ho,_⟩:=I.funs.mem hb
   rw[e] at ho
   cases ho
 . cases q:X.s₀.heap.get? b with
   |none=>rfl
   | some o=>
     obtain⟨o',z⟩:=I.base.there b o q (by rw[hex];simp)
     rw[e] at z
     cases z
 . rintro x c h rfl
   obtain⟨v,o,ho,_⟩:=I.cell x c h
   rw[e] at ho
   cases ho
 . rintro p hp rfl
   obtain⟨z,_⟩:=I.pin p hp
   rw[e] at z
   cases z
theorem Inv.stepN{h':Heap}{ch:List Addr}(I:Inv X pins σ H s)(hch:∀b∈ch,Nw X pins H b)
   (keep:∀b o,b≠X.env.locals ->b ∉ X.fs ->b ∉ ch ->s.heap.get? b=some o ->h'.get? b=some o)
   (slot:∀b o,b ∉ ch ->s.heap.get? b=some o ->∃sl,h'.get? b=some {o with slots:=sl}):Inv X pins σ H {s with heap:=h'}:=by
 have neL:∀b o,X.s₀.heap.get? b=some o ->b≠X.env.locals:=fun b o e=>Nat.ne_of_lt (Nat.lt_of_lt_of_le (Heap.lt_size e) I.ok.above)
 have neC:∀b o,X.s₀.heap.get? b=some o ->b ∉ ch:=fun b o e hb=>by
   have z:=(hch b hb).old
   rw[e] at z
   cases z
 have cellK:∀x c,X.env.cells.lookup x=some c ->∀v,s.heap.IsCell c v ->h'.IsCell c v:=fun x c e v ⟨o,ho,hd⟩=>by
   have nch:c ∉ ch:=fun z=>(hch c z).cell x c e rfl
   obtain⟨sl,q⟩:=slot c o nch ho
   exact⟨_,q,hd⟩
 refine⟨I.ok,I.os,I.bare,⟨fun b o e n hb hx=>?_,fun b o e n hb hx=>?_,I.base.free,fun b o e hx=>?_,I.base.tups,I.base.frzs,I.base.tbls⟩,?_,fun x c e=>?_,I.free,I.freeC,fun p hp=>?_,?_,I.len⟩
 . exact keep b o (neL b o e) hb (neC b o e) (I.base.keep b o e n hb hx)
 . obtain⟨sl,e1⟩:=I.base.slot b o e n hb hx
   obtain⟨sl',e2⟩:=slot b _ (neC b o e) e1
   exact⟨sl',e2⟩
 . obtain⟨o',e1⟩:=I.base.there b o e hx
   obtain⟨sl',e2⟩:=slot b _ (neC b o e) e1
   exact⟨_,e2⟩
 . obtain⟨m,hn,hl⟩:=I.loc
   refine⟨m,?_,fun i x v e1 e2 e3=>?_⟩
   . obtain⟨o,es,ep,ho,r⟩:=hn
     obtain⟨sl,q⟩:=slot _ o (fun z=>(hch _ z).loc rfl) ho
     exact⟨_,es,ep,q,r⟩
   . obtain⟨u,r,l⟩:=hl i x v e1 e2 e3
     refine⟨u,r,?_⟩
     rcases l with l|⟨k,c,e,z⟩
     . exact .inl l
     . exact .inr ⟨k,c,e,cellK x c e _ z⟩
 . obtain⟨v,z⟩:=I.cell x c e
   exact⟨v,cellK x c e v z⟩
 . obtain⟨e,n,ne,nf,d⟩:=I.pin p hp
   exact⟨keep p.1 p.2 ne nf (fun z=>(hch p.1 z).pin p hp rfl) e,n,ne,nf,d⟩
 . intro c o e
   have tr:∀b,H b≠none ->∀u,s.heap.get? b=some u ->h'.get? b=some u:=fun b hb u q=>
     keep b u (fun z=>hb (by rw[z];exact I.free)) (fun z=>hb (I.fsFree b z)) (fun z=>hb (hch b z).un) q
   refine(I.hok c o e).stay (fun b u hb q=>tr b ?_ u q) (fun _ q=>q) fun _ _ q=>q
   rcases hb with rfl|hb
   . rw[e];simp
   . rw[hb];simp
noncomputable def Flt (X:Cx) (pins:List (Addr×Obj)) (H:Hp) (s:Shared) (a:Addr) (C:Value) (t:Addr) (dd:Option Addr):Prop:=
 Nw X pins H a/\∃tb,s.heap.get? a=some (Z6 C t dd tb)/\B8j s.heap a tb/\∀T,tb= .ref T ->Nw X pins H T
noncomputable def FltAt (X:Cx) (pins:List (Addr×Obj)) (H:Hp) (s:Shared) (a:Addr) (C:Value) (t:Addr) (dd:Option Addr) (fl:Value):Prop:=
 Nw X pins H a/\∃T oT ts,s.heap.get? a=some (Z6 C t dd (.ref T))/\T≠a/\Nw X pins H T/\s.heap.get? T=some oT/\oT.data= .fields ts/\ts[3]?=some fl
structure Body(X:Cx):Prop where
 ex:X.ex=[]
 st:X.stack=X.env::X.outer
 fr:X.env.frame=some X.env.locals
theorem FltAt.flt(F:FltAt X pins H s a C t dd .none):Flt X pins H s a C t dd:=by
 obtain⟨n,T,oT,ts,e,ne,nT,eT,dT,h3⟩:=F
 exact⟨n,_,e,.inr ⟨T,oT,ts,rfl,ne,eT,dT,h3⟩,fun T' z=>by cases z;exact nT⟩
noncomputable def A8z:Value ->List Addr
 | .ref z=>[z]
 |_=>[]
theorem A6s{M:Model}{E:Value ->Shared ->Prop}{Q:Unit ->Shared ->Prop}(B:Body X)(I:Inv X pins σ H s)(F:Flt X pins H s a C t dd)
   (k:∀s',Inv X pins σ H s' ->FltAt X pins H s' a C t dd (rawInt X.env.locals) ->Q () s'):wpAny M X.A (noteFrame (.ref a) X.env) Q E s:=by
 obtain⟨na,tb,e,ht,nT⟩:=F
 have hfr:=I.ok.frames
 rw[B.st] at hfr
 have hl:=I.stack
 rw[B.st] at hl
 refine C0c hfr hl B.fr e ht fun h' T k1 k2 k3 k4 k5 k6=>?_
 have ch:∀b,b ∉ a::A8z tb ->b≠a/\tb≠ .ref b:=by
   intro b hb
   refine⟨fun z=>hb (by rw[z];exact List.mem_cons_self),fun z=>hb ?_⟩
   rw[z]
   exact List.mem_cons_of_mem _ (List.mem_singleton.mpr rfl)
 have I':Inv X pins σ H {s with heap:=h'}:=by
   refine I.stepN (ch:=a::A8z tb) (fun b hb=>?_) (fun b o h1 h2 h3 q=>k1 b o ?_ (ch b h3).1 (ch b h3).2 q) (fun b o h3 q=>k2 b o (ch b h3).1 (ch b h3).2 q)
   . rcases List.mem_cons.mp hb with rfl|hb
     . exact na
     . cases tb<;>simp[A8z] at hb
       subst hb
       exact nT _ rfl
   . intro z
     rw[List.filterMap_cons,B.fr] at z
     rcases List.mem_cons.mp z with z|z
     . exact h1 z
     . exact h2 z
 obtain⟨oT,ts,q1,q2,q3⟩:=k6
 exact k _ I' ⟨na,T,oT,ts,k5,k4,I.nw B.ex k3 (I.hok.new k3),q1,q2,q3⟩
theorem A3f{M:Model}{A:Around}{E:Value ->Shared ->Prop}{Q:Unit ->Shared ->Prop}{fl:Value}(I:Inv X pins σ H s)(F:FltAt X pins H s a C t dd fl)
   (k:∀s',Inv X pins σ H s' ->FltAt X pins H s' a C t dd .none ->Q () s'):wpAny M A (setFlight (.ref a) none) Q E s:=by
 obtain⟨na,T,oT,ts,e,ne,nT,eT,dT,h3⟩:=F
 refine B9f e ne eT dT h3 fun h' k1 k2=>?_
 have I':Inv X pins σ H {s with heap:=h'}:=I.stepN (ch:=[T]) (fun b hb=>by
   have:b=T:=by simpa using hb
   subst this
   exact nT) (fun b o _ _ hb q=>k1 b o (fun z=>hb (by simp[z])) q) (fun b o hb q=>⟨_,k1 b o (fun z=>hb (by simp[z])) q⟩)
 rcases k2 with z|⟨T',oT',ts',z,_,q1,q2,q3⟩
 . cases z
 . cases z
   exact k _ I' ⟨na,T,oT',ts',k1 a _ (Ne.symm ne) e,ne,nT,q1,q2,q3⟩
theorem B1n{M:Model}{E:Value ->Shared ->Prop}{Q:Unit ->Shared ->Prop}(B:Body X)(I:Inv X pins σ H s)(F:Flt X pins H s a C t dd)
   (k:∀s',Inv X pins σ H s' ->FltAt X pins H s' a C t dd .none ->Q () s'):wpAny M X.A (leaving X.env (.ref a)) Q E s:=by
 unfold leaving
 exact wpAny_bind (A6s B I F fun s1 I1 F1=>A3f I1 F1 k)
end
noncomputable abbrev EK:=Value ->Option Addr ->St ->Hp ->Prop
noncomputable def G6 (X:Cx) (EH:EK):Prop:=∀(pins:List (Addr×Obj)) (σ:St) (H:Hp) (s:Shared) (a t:Addr) (C:Value) (dd:Option Addr),Inv X pins σ H s ->Flt X pins H s a C t dd ->EH C dd σ H ->X.xe (.ref a) s
noncomputable def CX1 (P:Program) (w:World):CXT:=fun outer H s E e s'=>∃(a t:Addr) (C:Value) (dd:Option Addr) (H':Hp),e= .ref a/\s'.os=s.os/\AllBare s'.gens/\Un (frs outer) [] H H' s.heap s'.heap/\HOk P w H' s'.heap/\E C dd H'/\
 (s.heap.get? a=none/\H' a=none)/\∃T oT ts,s'.heap.get? a=some (Z6 C t dd (.ref T))/\T≠a/\(s.heap.get? T=none/\H' T=none)/\s'.heap.get? T=some oT/\oT.data= .fields ts/\ts[3]?=some .none
theorem A8n{P:Program}{w:World}{K:PySem.W.Frag}{mg:Str ->Option Value}{base:Heap}{N:List Str}{qual:Str}{scope:Scope}{f:Addr}{cd:Value}{A:Around}{outer:List Env}{s:Shared}{H:Hp}{E:XK}:
   G6 (A3s (CX1 P w) P w K mg base N qual scope f cd A outer s H E) (fun C dd _ H'=>E C dd H'):=by
 intro pins σ H' s' a t C dd I F h
 refine B1n (X:=A3s (CX1 P w) P w K mg base N qual scope f cd A outer s H E) ⟨rfl,rfl,rfl⟩ I F fun s2 I2 F2=>?_
 obtain⟨na,T,oT,ts,e,ne,nT,eT,dT,h3⟩:=F2
 exact⟨a,t,C,dd,H',rfl,I2.os,I2.bare,I2.base,I2.hok,h,⟨na.old,na.un⟩,T,oT,ts,e,ne,⟨nT.old,nT.un⟩,eT,dT,h3⟩
section
variable{X:Cx}{k:Nat}{f C:Addr}{fd:FuncData}{ps:List Str}{sp:Sp}{dvs:List V}{ds:List Value}{EH:EK}{x m:Str}{p pos apos:Pos}{e o:Expr}{es:List Expr}{ta:TE}{t:TA}
theorem C2x{pins:List (Addr×Obj)}{σ:St}{H:Hp}{s:Shared}{e:Value}{s':Shared}(hx:G6 X EH)(hex:X.ex=[])(I:Inv X pins σ H s)
   (h:CX1 X.prog X.w X.stack H s (fun C d H'=>EH C d σ H') e s'):X.xe e s':=by
 obtain⟨a,t,C,dd,H',rfl,os,bare,un,hok,hE,⟨a1,a2⟩,T,oT,ts,z,ne,⟨t1,t2⟩,eT,dT,h3⟩:=h
 have I':Inv X pins σ H' s':=I.call' (ch:=[]) os un hok bare (fun b q=>absurd q (by simp))
 exact hx pins σ H' s' a t C dd I' (FltAt.flt ⟨I.nw hex a1 a2,T,oT,ts,z,ne,I.nw hex t1 t2,eT,dT,h3⟩) hE
theorem A9v{pins:List (Addr×Obj)}{σ:St}{H:Hp}{s:Shared}{Q:VK}{us:List Value}{vs:List V}(F:FnOk X.prog X.w X.K X.mg X.base (CX1 X.prog X.w) k f fd ps sp)(hr:Room k X.A)(hb:Binds X.K fd ps ds)(hd:Vals dvs ds)
   (hx:G6 X EH) (hex:X.ex=[]) (I:Inv X pins σ H s) (r:Vals vs us) (h:sp (vs++dvs) H Q (fun C d H'=>EH C d σ H')):wpAny (model X.prog X.w) X.A (call (.ref f) us) (EP X pins σ Q) X.xe s:=by
 have r2:Vals (vs++dvs) (us++ds):=r.append hd
 have hl:(us++ds).length=ps.length:=by rw[<-r2.length];exact F.len _ _ _ _ h
 refine wpAny_call (codeAny_mono (F.run X.A X.stack s H ⟨us,[]⟩ (us++ds) (vs++dvs) Q _ hr I.env0 (hb s us I.kIn hl) r2 h) fun r s' hq=>?_)
 cases r with
 |error e=>exact C2x hx hex I hq
 | ok fl=>
   cases fl with
   |ret u=>exact I.after hq
   |next=>exact False.elim hq
   |brk=>exact False.elim hq
   |cont=>exact False.elim hq
noncomputable def A5w (sp:Sp) (dvs:List V) (EH:EK) (t:TA):TE:=fun σ H Q=>t σ H fun vs H1=>sp (vs++dvs) H1 Q (fun C d H'=>EH C d σ H')
theorem B4k(F:FnOk X.prog X.w X.K X.mg X.base (CX1 X.prog X.w) k f fd ps sp)(hr:Room k X.A)(hg:Gl X x)(hm:X.mg x=some (.ref f))(hk:PySem.W.keepIn X.K (.ref f)=true)(hb:Binds X.K fd ps ds)(hd:Vals dvs ds)
   (hx:G6 X EH) (ha:PA X (e::es) t) (hex:X.ex=[]:=by rfl) (hdb:(x==("__debug__":Str))=false:=by decide) (he:starEach (e::es) X.env=(false,eval e X.env)::starEach es X.env:=by rfl)
   (hpl:(backTo pos (starEach es X.env)).any (·.1)=false:=by rfl):PE X (.Call (.Name x p) (e::es) [] pos) (A5w sp dvs EH t):=by
 intro pins s σ H Q I h
 refine wpAny_Call_Name_kw (A0r I hg hm ?_ hdb)
 refine PySem.W.callWith_K (h₀:=X.base) I.ok.mod.kin hk (thn (ha pos pins s σ H _ I h) fun us s1 ⟨vs,H1,I1,r,q⟩=>⟨I1.kIn,?_⟩) he hpl
 exact A9v F hr hb hd hx hex I1 r q
theorem B1x(F:FnOk X.prog X.w X.K X.mg X.base (CX1 X.prog X.w) k f fd ps sp)(hr:Room k X.A)(hg:Gl X x)(hm:X.mg x=some (.ref f))(hk:PySem.W.keepIn X.K (.ref f)=true)(hb:Binds X.K fd ps ds)(hd:Vals dvs ds)
   (hx:G6 X EH) (hex:X.ex=[]:=by rfl) (hdb:(x==("__debug__":Str))=false:=by decide):PE X (.Call (.Name x p) [] [] pos) (A5w sp dvs EH B3n):=by
 intro pins s σ H Q I h
 refine wpAny_Call_Name_kw (A0r I hg hm ?_ hdb)
 exact PySem.W.callWith_K0 I.kIn hk (A9v (us:=[]) F hr hb hd hx hex I .nil h)
end
section
variable{P:Program}{w:World}{K:PySem.W.Frag}{mg:Str ->Option Value}{base:Heap}
theorem Fun.okE{x qual:Str}{st:Stmt}{f:Addr}{fd:FuncData}{N ps:List Str}{k:Nat}{sp:Sp}(F:Fun K x qual st f fd)(S:FnScope N ps (A6 st))(len:∀vs H Q E,sp vs H Q E ->vs.length=ps.length)
   (hbody:∀(X:Cx) (cdv:Value) (A:Around) (outer:List Env) (s:Shared) (H:Hp) (vs:List V) (Q:VK) (E:XK),X=A3s (CX1 P w) P w K mg base N qual (A6 st) f cdv A outer s H E ->Room k X.A ->G6 X (fun C dd _ H'=>E C dd H') ->sp vs H Q E ->
     ∃t,PSs (A3s (CX1 P w) P w K mg base N qual (A6 st) f cdv A outer s H E) (D5 st) t/\t {nx:=fun _ H'=>Q .non H',rt:=Q} (A1d N vs) H):FnOk P w K mg base (CX1 P w) (k+1) f fd ps sp:=by
 obtain⟨oc,od,kV,doc,pm,an,cdv,ct,osl,rfl,lk,hc⟩:=F.ex
 exact B7z lk hc S len fun A outer s H vs Q E hr h=>hbody _ cdv A outer s H vs Q E rfl hr A8n h
theorem FnOk.up{k:Nat}{f:Addr}{fd:FuncData}{ps:List Str}{sp:Sp}(F:FnOk P w K mg base CX0 k f fd ps sp):FnOk P w K mg base (CX1 P w) k f fd ps sp:=by
 refine⟨F.len,fun A outer s H args us vs Q E hr e0 hb r h=>codeAny_mono (F.run A outer s H args us vs Q E hr e0 hb r h) fun r s' q=>?_⟩
 cases r with
 |error e=>exact False.elim q
 |ok fl=>cases fl<;>exact q
end
end L2
namespace L2
open PySem PySem.Spec PyProof.Rows PySem.W
theorem B7k{K:Frag}{h:Heap}{C:Addr}{bmB:List Value}{newId:String}(X:K.In h)(q:excIn K C bmB newId=true):
   ∃ (bm:List Value) (N:Addr) (nm qn:Str) (bs:List Value) (hd:Bool) (sn:List Str) (sub:List Value) (ab:Bool) (col:Option Bool) (dd:Option Addr) (k0 k1 k2 k3 k5:Option Value) (mN:Str ->Option Value),
     h.get? C=some (excClassObj nm qn C N bs bm hd sn sub ab col dd k0 k1 k2 k3 k5 newId)/\h.Ns N mN/\mN "__init__"=none/\OwnTail h bmB bm:=by
 unfold excIn at q
 split at q
 . rename_i dd cd sl ho
   split at q
   . rename_i C' bm k0 k1 k2 k3 n k5 hm hs
     simp only[Bool.and_eq_true,beq_iff_eq,Bool.not_eq_true'] at q
     obtain⟨⟨⟨⟨⟨r1,r2⟩,r3⟩,r4⟩,r5⟩,r6⟩:=q
     subst r1 r2
     obtain⟨a1,a2,a3,a4,a5,a6,a7,a8,a9,a10,a11⟩:=cd
     dsimp only at hm r3 r5 r6
     subst hm r3
     have hsl:sl= #[k0,k1,k2,k3,some (.builtin n),k5]:=by
       obtain⟨l⟩:=sl
       simp only at hs
       rw[hs]
     subst hsl
     exact⟨bm,a4,a1,a5,a2,a6,a7,a8,a9,a10,dd,k0,k1,k2,k3,k5,_,X _ _ ho,.of_isNs (isNs_of_in X r5),nsMap_none_of_in X r5 r6,tail_of_in X r4⟩
   . cases q
 . cases q
section
variable{X:Cx}{x:Str}{p cpos pos:Pos}{e:Expr}{es:List Expr}{t:TA}{C:Addr}{bmB:List Value}{B newId initId:String}{EH:EK}
noncomputable def B9q (C:Addr) (EH:EK) (t:TA):TS:=fun _ σ H=>t σ H fun vs H1=>vs.length<=sizeLine/\EH (.ref C) none σ H1
theorem Y4(hg:Gl X x)(hm:X.mg x=some (.ref C))(q:excIn X.K C bmB newId=true)(FB:ExcBaseFacts B newId initId bmB)(hh:X.A.handled=none)(hx:G6 X EH)(ha:PA X (e::es) t)(hex:X.ex=[]:=by rfl)
   (hdb:(x==("__debug__":Str))=false:=by decide) (he:starEach (e::es) X.env=(false,eval e X.env)::starEach es X.env:=by rfl) (hpl:(backTo cpos (starEach es X.env)).any (·.1)=false:=by rfl):
   PS X (.Raise (some (.Call (.Name x p) (e::es) [] cpos)) none pos) (B9q C EH t):=by
 intro pins s σ H D I h
 obtain⟨bm,N,nm,qn,bs,hd,sn,sub,ab,col,dd,k0,k1,k2,k3,k5,mN,hC,hN,hni,T⟩:=B7k I.ok.mod.kin q
 refine wpAny_Raise_call_subT (C:=C) (nm:=nm) (q:=qn) (N:=N) (bs:=bs) (bm:=bm) (hdct:=hd) (sn:=sn) (sub:=sub) (ab:=ab) (col:=col) (dd:=dd) (k0:=k0) (k1:=k1) (k2:=k2) (k3:=k3) (k5:=k5) FB (mN:=mN) (T.hasType FB.hasBase) hh
   (by rw[he];show(false||(backTo cpos (starEach es X.env)).any (·.1))=false;rw[hpl];rfl) hni (A0r I hg hm ⟨rfl,?_⟩ hdb)
 have ha':=ha cpos pins s σ H _ I h
 rw[he] at ha' ⊢
 refine Calls.evalArgs_plain (wpAny_mono ha' (fun us s2 ⟨vs,H1,I1,r,z,q⟩=>⟨rfl,by rw[<-r.length];exact z,I1.bk _ _ hC,hN.keeps I1.bk,T.keeps I1.bk,fun h' a m=>?_⟩) fun _ _ y=>y)
 have I2:Inv X pins σ H1 {s2 with heap:=h'}:=I1.kept (t':=s2.toks) m.keeps
 obtain⟨t',e1,tn,e2⟩:=m.there
 exact hx pins σ H1 _ a t' (.ref C) none I2 ⟨I1.nw hex m.new (I1.hok.new m.new),.none,e1,.inl rfl,fun T z=>nomatch z⟩ q
end
section
variable{X:Cx}{pins:List (Addr×Obj)}{σ:St}{H:Hp}{s:Shared}
theorem Inv.track{a:Addr}{o:Obj}(I:Inv X pins σ H s)(n:Nw X pins H a)(e:s.heap.get? a=some o):Inv X pins σ (upd H a (.frz o (.own a))) s:=by
 have ne:∀b u,H b=some u ->b≠a:=fun b u z q=>by rw[q,n.un] at z;cases z
 have up:∀b,b≠a ->upd H a (.frz o (.own a)) b=H b:=fun b hb=>C8 hb
 refine⟨I.ok,I.os,I.bare,⟨I.base.keep,I.base.slot,fun b u z m hx=>?_,I.base.there,fun b xs z=>?_,fun b u v z=>?_,fun b ps z=>?_⟩,I.loc,I.cell,?_,fun x c z=>?_,fun p hp=>?_,fun b u z=>?_,I.len⟩
 . rw[up b fun q=>by rw[q,n.old] at z;cases z]
   exact I.base.free b u z m hx
 . have:=I.base.tups b xs z
   rw[up b (ne b _ this)];exact this
 . have:=I.base.frzs b u v z
   rw[up b (ne b _ this)];exact this
 . obtain⟨more,this⟩:=I.base.tbls b ps z
   exact⟨more,by rw[up b (ne b _ this)];exact this⟩
 . rw[up _ (Ne.symm n.loc)];exact I.free
 . rw[up _ (n.cell x c z)];exact I.freeC x c z
 . obtain⟨q1,q2,q3⟩:=I.pin p hp
   exact⟨q1,by rw[up _ (n.pin p hp)];exact q2,q3⟩
 . by_cases hb:b=a
   . subst hb
     rw[A9] at z
     cases z
     exact⟨e,_,e⟩
   . rw[up b hb] at z
     exact(I.hok b u z).stay (fun _ _ _ q=>q) (fun c q=>by rw[up c (ne c _ q)];exact q) (fun c xs q=>by rw[up c (ne c _ q)];exact q)
theorem B2k{M:Model}{A:Around}{E:Value ->Shared ->Prop}{i:Nat}{x:Str}{v:V}{Q:Unit ->Shared ->Prop}(I:Inv X pins σ H s)(hN:X.N.Nodup)(hi:X.N[i]?=some x)(hk:X.env.scope.names.lookup x=some .local)(hv:σ[i]?=some (some v))
   (k:∀s',Inv X pins (σ.set i none) H s' ->Q () s'):wpAny M A (unbindName X.env x) Q E s:=by
 obtain⟨m,hn,hl⟩:=id I.loc
 have hcls:(X.env.scope.kind== .class||(X.env.scope.kind== .module&&X.env.locals !=X.env.globals))=false:=by rw[I.ok.kind];rfl
 obtain⟨u,_,lk⟩:=hl i x v hi hv (.inl hk)
 have hm:m x=some u:=by
   rcases lk with⟨_,z⟩|⟨z,_⟩
   . exact z
   . have z:X.env.scope.names.lookup x=some .cell\/X.env.scope.names.lookup x=some .free:=z
     rw[hk] at z
     rcases z with z|z<;>cases z
 refine wpAny_unbindName_local hk hn hm hcls fun h' w' hn' hs=>k _ ?_
 obtain⟨oL,_,_,hoL,_⟩:=id hn
 have nl:∀b o,X.s₀.heap.get? b=some o ->b≠X.env.locals:=fun b o e=>Nat.ne_of_lt (Nat.lt_of_lt_of_le (Heap.lt_size e) I.ok.above)
 refine⟨I.ok,I.os,I.bare,⟨fun b o e n hb hx=>?_,fun b o e n hb hx=>?_,I.base.free,fun b o e hx=>?_,I.base.tups,I.base.frzs,I.base.tbls⟩,⟨_,hn',fun j y v' e1 e2 e3=>?_⟩,fun y c e=>?_,I.free,I.freeC,fun p hp=>?_,fun b u z=>?_,by simpa using I.len⟩
 . exact(hs.2 b (nl b o e)).trans (I.base.keep b o e n hb hx)
 . obtain⟨sl,e1⟩:=I.base.slot b o e n hb hx
   exact⟨sl,(hs.2 b (nl b o e)).trans e1⟩
 . obtain⟨o',e1⟩:=I.base.there b o e hx
   exact⟨o',(hs.2 b (nl b o e)).trans e1⟩
 . by_cases hj:j=i
   . subst hj
     have hlen:j<σ.length:=(List.getElem?_eq_some_iff.mp hv).1
     rw[List.getElem?_set_self hlen] at e2
     cases e2
   . rw[List.getElem?_set_ne (Ne.symm hj)] at e2
     obtain⟨u',r',q⟩:=hl j y v' e1 e2 e3
     refine⟨u',r',?_⟩
     rcases q with⟨k1,e⟩|⟨k1,c,e,z⟩
     . have:y≠x:=fun e=>hj (A3h hN e1 (e▸hi))
       exact .inl ⟨k1,by simp[this,e]⟩
     . exact .inr ⟨k1,c,e,z.sameBut hs (I.cne y c e)⟩
 . obtain⟨w2,z⟩:=I.cell y c e
   exact⟨w2,z.sameBut hs (I.cne y c e)⟩
 . obtain⟨e,n,ne,nf,d⟩:=I.pin p hp
   exact⟨(hs.2 p.1 ne).trans e,n,ne,nf,d⟩
 . refine(I.hok b u z).stay (fun c w2 hc q=>(hs.2 c ?_).trans q) (fun _ q=>q) fun _ _ q=>q
   rintro rfl
   rcases hc with rfl|hc
   . rw[I.free] at z;cases z
   . rw[I.free] at hc;cases hc
end
noncomputable abbrev Cx.hold (X:Cx) (pins:List (Addr×Obj)) (E:Value ->Shared ->Prop):Cx:={X with pn:=X.pn++pins,xe:=E}
noncomputable abbrev Cx.hnd (X:Cx) (pins:List (Addr×Obj)) (a:Addr):Cx:={X with A:=X.A.mark (some (.ref a)),calm:=false,pn:=X.pn++pins,xe:=fun _ _=>False}
section
variable{X:Cx}{pins pins':List (Addr×Obj)}{σ:St}{H:Hp}{s:Shared}{a:Addr}{E:Value ->Shared ->Prop}
theorem Inv.hold(I:Inv X pins σ H s):Inv (X.hold pins E) [] σ H s:=
 ⟨⟨I.ok.mod,I.ok.kind,I.ok.glob,I.ok.blt,I.ok.above,I.ok.inj,I.ok.has,I.ok.cab,I.ok.hd,I.ok.frames,I.ok.stk,I.ok.exf,I.ok.bs,I.ok.bsz,I.ok.noex,I.ok.exfs,I.ok.funs,I.ok.frf⟩,
   I.os,I.bare,I.base,I.loc,I.cell,I.free,I.freeC,fun p hp=>I.pin p (by simpa using hp),I.hok,I.len⟩
theorem Inv.unhold(I:Inv (X.hold pins E) pins' σ H s):Inv X pins σ H s:=
 ⟨⟨I.ok.mod,I.ok.kind,I.ok.glob,I.ok.blt,I.ok.above,I.ok.inj,I.ok.has,I.ok.cab,I.ok.hd,I.ok.frames,I.ok.stk,I.ok.exf,I.ok.bs,I.ok.bsz,I.ok.noex,I.ok.exfs,I.ok.funs,I.ok.frf⟩,
   I.os,I.bare,I.base,I.loc,I.cell,I.free,I.freeC,fun p hp=>I.pin p (List.mem_append_left _ hp),I.hok,I.len⟩
theorem Inv.hnd(I:Inv X pins σ H s):Inv (X.hnd pins a) [] σ H s:=
 ⟨⟨I.ok.mod,I.ok.kind,I.ok.glob,I.ok.blt,I.ok.above,I.ok.inj,I.ok.has,I.ok.cab,(fun z=>nomatch z),I.ok.frames,I.ok.stk,I.ok.exf,I.ok.bs,I.ok.bsz,I.ok.noex,I.ok.exfs,I.ok.funs,I.ok.frf⟩,
   I.os,I.bare,I.base,I.loc,I.cell,I.free,I.freeC,fun p hp=>I.pin p (by simpa using hp),I.hok,I.len⟩
theorem Inv.unhnd(ok:X.Ok)(I:Inv (X.hnd pins a) pins' σ H s):Inv X pins σ H s:=
 ⟨ok,I.os,I.bare,I.base,I.loc,I.cell,I.free,I.freeC,fun p hp=>I.pin p (List.mem_append_left _ hp),I.hok,I.len⟩
theorem Nw.unhold{b:Addr}(n:Nw (X.hold pins E) pins' H b):Nw X pins H b:=⟨n.un,n.loc,n.fs,n.old,n.cell,fun p hp=>n.pin p (List.mem_append_left _ hp)⟩
theorem Flt.unhold{t:Addr}{C:Value}{dd:Option Addr}(F:Flt (X.hold pins E) pins' H s a C t dd):Flt X pins H s a C t dd:=by
 obtain⟨n,tb,e,ok,m⟩:=F
 exact⟨n.unhold,tb,e,ok,fun T z=>(m T z).unhold⟩
theorem SP.unhold{D:Ends}{f:Flow}{s':Shared}(h:SP (X.hold pins E) pins' D f s'):SP X pins D f s':=by
 cases f with
 |next=>obtain⟨σ',H',I,q⟩:=h;exact⟨σ',H',I.unhold,q⟩
 |brk=>obtain⟨σ',H',I,q⟩:=h;exact⟨σ',H',I.unhold,q⟩
 |cont=>obtain⟨σ',H',I,q⟩:=h;exact⟨σ',H',I.unhold,q⟩
 |ret u=>obtain⟨v,σ',H',I,r,q⟩:=h;exact⟨v,σ',H',I.unhold,r,q⟩
end
structure Clause(K:Frag)(R:Addr):Prop where
 ty:typeIn K (.ref R)=some (.type "type")
 cl:(clsIn K R).isSome=true
 ex:subIn K (.ref R) (.type "BaseException")=some true
theorem Y7{K:Frag}{M:Model}{h:Heap}{R:Addr}(X:K.In h)(c:(clsIn K R).isSome=true):Looks M h (isType (.ref R)) true:=by
 unfold clsIn at c
 split at c
 . rename_i ho
   intro A' Q' E' s' k q
   unfold isType loadHead
   exact wpAny_bind (wpAny_loadPart (k _ _ (X _ _ ho)) (wpAny_pure q))
 . cases c
theorem B1h{K:Frag}{M:Model}{A:Around}{E:Value ->Shared ->Prop}{s:Shared}{a R:Addr}{C:Value}{oa:Obj}{b:Bool}{Q:Bool ->Shared ->Prop}(X:K.In s.heap)(ha:s.heap.get? a=some oa)(hc:oa.cls=C)(c:Clause K R)
   (m:subIn K C (.ref R)=some b) (h:Q b s):wpAny M A (excMatches (.ref a) (.ref R)) Q E s:=by
 obtain⟨hp,g,d,tk,os⟩:=s
 have L1:Looks M hp (typeOf (.ref R)) (.type "type"):=looks_typeIn X c.ty
 have L2:Looks M hp (isSubtype (.ref R) (.type "BaseException")) true:=looks_subIn X c.ex
 have L3:Looks M hp (isSubtype C (.ref R)) b:=looks_subIn X m
 have L4:Looks M hp (typeOf (.ref a)) C:=hc▸(Looks.ld ha).andThen .now
 have L5:Looks M hp (isType (.ref R)) true:=Y7 X c.cl
 unfold excMatches
 unfold isInstance
 refine wpAny_bind (wpAny_bind (L1.at ?_))
 rw[tc_notTuple]
 refine wpAny_pure ?_
 simp only[Bool.false_eq_true,if_false]
 refine wpAny_bind (wpAny_pure ?_)
 simp only[List.forIn_cons,List.forIn_nil]
 unfold isExcClass
 refine wpAny_bind (wpAny_bind (wpAny_bind (wpAny_bind (L5.at ?_))))
 simp only[if_true]
 refine L2.at ?_
 simp only[Bool.not_true,Bool.false_eq_true,if_false]
 refine wpAny_pure (wpAny_pure ?_)
 refine wpAny_bind (L4.at ?_)
 refine wpAny_bind (wpAny_bind (wpAny_bind (L3.at ?_)))
 cases b with
 |true=>simp only[if_true];exact wpAny_pure (wpAny_pure (wpAny_pure h))
 |false=>simp only[Bool.false_eq_true,if_false];exact wpAny_pure (wpAny_pure (wpAny_pure h))
noncomputable def C3n (K:Frag) (R:Addr) (i:Nat) (tb:EK ->TS) (ts:Addr ->TS):TS:=fun D σ H=>
 tb (fun C dd σ' H'=>subIn K C (.ref R)=some true/\∀(a t T:Addr),H' a=none ->
   ts a {nx:=fun σ2 H2=>D.nx (σ2.set i none) H2,rt:=D.rt,bk:=fun σ2 H2=>D.bk (σ2.set i none) H2,ct:=fun σ2 H2=>D.ct (σ2.set i none) H2}
     (σ'.set i (some (.ref a))) (upd H' a (.frz (Z6 C t dd (.ref T)) (.own a)))) D σ H
section
variable{X:Cx}{x n:Str}{np hpos pos:Pos}{R:Addr}{i:Nat}{body suite:List Stmt}{b₀:Stmt}{tb:EK ->TS}{ts:Addr ->TS}
theorem B8p(B:Body X)(hg:Gl X x)(hm:X.mg x=some (.ref R))(c:Clause X.K R)(hN:X.N.Nodup)(hi:X.N[i]?=some n)(hk:X.env.scope.names.lookup n=some .local)
   (hb:∀pins Ew EHb,G6 (X.hold pins Ew) EHb ->PSs (X.hold pins Ew) body (tb EHb)) (hs:∀pins a,PSs (X.hnd pins a) (b₀::suite) (ts a))
   (hdb:(x==("__debug__":Str))=false:=by decide) (hf:X.fn n=true\/X.env.scope.names.lookup n=some .local:=by first|exact .inl rfl|exact .inr rfl|assumption):
   PS X (.Try body [.ExceptHandler (some (.Name x np)) (some n) (b₀::suite) hpos] [] [] pos) (C3n X.K R i tb ts):=by
 intro pins s σ H D I h
 refine wpAny_Try_except ?_
 refine wpAny_mono (hb pins _ _ ?cat [] s σ H D I.hold h) (fun f s1 hf1=>?_) (fun e s1 he=>he)
 case cat=>
   intro pins' σ' H' s' a t C dd I' F' hE
   obtain⟨hsub,hE⟩:=hE
   show wpAny (model X.prog X.w) X.A (noteFrame (.ref a) X.env) _ X.xe s'
   have J:=I'.unhold
   have F:=F'.unhold
   refine A6s B J F fun s2 J2 F2=>A3f J2 F2 fun s3 J3 F3=>?_
   obtain⟨na,T,oT,ts',e3,ne3,nT3,eT3,dT3,h33⟩:=id F3
   refine wpAny_handleBy_cons (codeAny_handlers_test ?_) (by intro z;cases z)
   have K3:Inv (X.hnd pins a) [] σ' H' s3:=J3.hnd
   refine A0r K3 hg hm ?_ hdb
   refine B1h J3.kIn e3 rfl c hsub ?_
   show codeAny _ _ _ _ _
   refine codeAny_handlers_suite_as ?_
   refine A3f J3 F3 fun s4 J4 F4=>?_
   obtain⟨na4,T4,oT4,ts4,e4,_⟩:=id F4
   have J5:=J4.track na4 e4
   refine A1m (v:= .ref a) J5 hN hi (.inl hk) rfl (fun s5 J6=>?_) hf
   refine wpAny_mono (hs pins a [] s5 _ _ _ J6.hnd (hE a t T4 na4.un)) (fun f s6 hf6=>?_) (fun _ _ z=>z.elim)
   have fin:∀{σ6:St} {H6:Hp} {Q6:Unit ->Shared ->Prop},Inv (X.hnd pins a) [] σ6 H6 s6 ->(∀s7,Inv X pins (σ6.set i none) H6 s7 ->Q6 () s7) ->
       wpAny (model X.prog X.w) X.A (do bindName X.env n .none;unbindBehindTheSuite X.env n hpos) Q6 X.xe s6:=by
     intro σ6 H6 Q6 K6 k6
     have L6:=K6.unhnd J6.ok
     refine wpAny_bind (wpAny_bindName (A1m (v:= .non) L6 hN hi (.inl hk) rfl (fun s7 J7=>?_) hf))
     unfold unbindBehindTheSuite
     have hlen:i<σ6.length:=by rw[L6.len];exact(List.getElem?_eq_some_iff.mp hi).1
     refine wpAny_onRaise (B2k J7 hN hi hk (List.getElem?_set_self hlen) fun s8 J8=>k6 s8 ?_)
     rw[List.set_set] at J8
     exact J8
   cases f with
   |next=>obtain⟨σ6,H6,K6,q⟩:=hf6;exact fin K6 fun s7 J7=>⟨_,_,J7,q⟩
   |brk=>obtain⟨σ6,H6,K6,q⟩:=hf6;exact fin K6 fun s7 J7=>⟨_,_,J7,q⟩
   |cont=>obtain⟨σ6,H6,K6,q⟩:=hf6;exact fin K6 fun s7 J7=>⟨_,_,J7,q⟩
   |ret u=>obtain⟨v,σ6,H6,K6,r,q⟩:=hf6;exact fin K6 fun s7 J7=>⟨v,_,_,J7,r,q⟩
 . cases f with
   |next=>exact wpAny_execs_nil (SP.unhold hf1)
   |brk=>exact SP.unhold hf1
   |cont=>exact SP.unhold hf1
   |ret u=>exact SP.unhold hf1
end
structure ExcK(K:Frag)(C:Addr):Prop where
 ga:findIn K (.ref C) "__getattribute__"=some (some (.builtin "BaseException.__getattribute__"))
 gh:findIn K (.ref C) "__getattr__"=some none
 ca:findIn K (.ref C) "__class__"=some (some (.builtin "object.__class__"))
 sn:specialIn K (.builtin "object.__class__") "__get__"=some (some (.builtin "getset_descriptor.__get__"))
 tk:takesIn K (.builtin "object.__class__")=some true
 ob:mroIn K C (.type "object")=some true
 be:subIn K (.ref C) (.type "BaseException")=some true
 cl:(clsIn K C).isSome=true
theorem A0f{prog:Program}{w:World}{A:Around}{E:Value ->Shared ->Prop}{s:Shared}{K:Frag}{a C:Addr}{oa:Obj}{od:Option Obj}{Q:Option Value ->Shared ->Prop}(F:ExcK K C)(X:K.In s.heap)(I:PySem.W.InstAt s.heap a oa C od)
   (h:Q (some (.ref C)) {s with toks:=s.toks+1}):wpAny (model prog w) A (getAttr? (.ref a) "__class__") Q E s:=by
 obtain⟨hp,g,d,t,os⟩:=s
 have L0:=I.type (M:=model prog w)
 have L1:=looks_findIn (M:=model prog w) X F.ga
 have L2:=looks_findIn (M:=model prog w) X F.gh
 have L3:Looks (model prog w) hp (isInstance (.ref a) (.type "BaseException")) true:=L0.andThen (looks_subIn X F.be)
 have hf:findObj K C od "__class__"=some (.bind (.builtin "getset_descriptor.__get__") (.builtin "object.__class__")):=by
   obtain⟨cd,hc⟩:=Option.isSome_iff_exists.mp F.cl
   unfold findObj
   rw[hc,Option.bind_some,F.ca,Option.bind_some]
   simp[F.sn,F.tk]
 have L4:=looks_find (M:=model prog w) X I hf
 have hk:builtinKind "BaseException.__getattribute__"=some .slot:=by decide+kernel
 have hsplit:splitId "BaseException.__getattribute__"=some ("BaseException","__getattribute__"):=by decide+kernel
 have hargs:=PySem.F.args_bexc_ga (.ref a) (.str "__class__" t)
 have hb:=PySem.F.attr_ValueError.ga.bind (.ref a)
 unfold getAttr? getAttrBy? getAttrBy
 refine wpAny_bind (wpAny_mkText (wpAny_bind (wpAny_attempt (wpAny_holding (wpAny_bind (L0.at (wpAny_bind (L1.at ?_))))))))
 dsimp only
 rw[if_neg (show¬((onTheHeap (Value.ref C)&&Value.builtin "BaseException.__getattribute__"==Value.builtin "object.__getattribute__")=true) by
   rw[show(Value.builtin "BaseException.__getattribute__"==Value.builtin "object.__getattribute__")=false by decide+kernel,Bool.and_false];exact Bool.false_ne_true)]
 unfold getAttrByItsOwn
 refine wpAny_bind (m:=hookBefore (.ref C)) (L2.at ?_)
 refine wpAny_bind (wpAny_attempt (wpAny_holding ?_))
 unfold callGetattribute
 rw[if_neg (by decide)]
 unfold boundAndCalled
 rw[hb]
 refine wpAny_bind (wpAny_pure ?_)
 refine wpAny_call (codeAny_call_builtin PySem.F.attr_ValueError.ga.plain PySem.F.entry_bexc_ga ?_)
 have chk:∀{A':Around} {Q':Unit ->Shared ->Prop} {E':Value ->Shared ->Prop},Q' () ⟨hp,g,d,t+1,os⟩ ->wpAny (model prog w) A' (checkBuiltinCall "BaseException.__getattribute__" ⟨[.ref a,.str "__class__" t],[]⟩) Q' E' ⟨hp,g,d,t+1,os⟩:=by
   intro A' Q' E' hq
   simp only[checkBuiltinCall,hk,hsplit]
   refine wpAny_bind ?_
   refine L3.at ?_
   repeat (first|assumption|wp_step)
 refine chk ?_
 show wpAny _ _ (Builtin.«object.__getattribute__» ⟨[.ref a, .str "__class__" t], []⟩) _ _ _
 unfold Builtin.«object.__getattribute__»
 refine wpAny_bind (wpAny_pure ?_)
 refine wpAny_bind (wpAny_pure ?_)
 refine wpAny_bind (L0.at (wpAny_bind (L4.at ?_)))
 dsimp only
 show wpAny _ _ (holding [Value.builtin "object.__class__"] (call (.builtin "getset_descriptor.__get__") [.builtin "object.__class__",.ref a,.ref C])>>=ret) _ _ _
 refine wpAny_bind (wpAny_holding (wpAny_call (class_get (s:=⟨hp,g,d,t+1,os⟩) X I F.ob (wpAny_pure ?_))))
 exact handed_on rfl (wpAny_pure h)
noncomputable def V0 (X:Cx):Prop:=X.A.handled=none\/∃x o u vs,X.A.handled=some (.ref x)/\X.H₀ x=some (.frz o u)/\o.data= .fields vs/\vs[2]?=some .none
section
variable{X:Cx}{pins:List (Addr×Obj)}{σ:St}{H:Hp}{s:Shared}
theorem Inv.hdA(I:Inv X pins σ H s)(h:V0 X):Hd X.A s.heap:=by
 rcases h with z|⟨x,o,u,vs,z,e,d,n⟩
 . exact .inl z
 . exact .inr ⟨x,o,vs,z,(I.hok x _ (I.base.frzs x o u e)).1,d,n⟩
theorem Inv.hdB{it:Addr}(I:Inv X pins σ H s)(h:V0 X)(hn:H it=none):∀h':Heap,Heap.ExtBut it s.heap h' ->Hd X.A h':=by
 intro h' k
 rcases h with z|⟨x,o,u,vs,z,e,d,n⟩
 . exact .inl z
 . have q:=I.base.frzs x o u e
   exact .inr ⟨x,o,vs,z,k x o (fun w=>by rw[w,hn] at q;cases q) (I.hok x _ q).1,d,n⟩
end
structure TurnH(P:Program)(w:World)(K:Frag)(tg:Expr)(J:It)(it:Addr)(tn:Nat ->Heap ->Prop):Prop where
 obj:∀i h,tn i h ->∃o,h.get? it=some o/\∀v,o.data≠ .cell v
 keep:∀i h h',tn i h ->(∀o,h.get? it=some o ->h'.get? it=some o) ->tn i h'
 item:∀(X:Cx),X.prog=P ->X.w=w ->X.K=K ->V0 X ->∀(i:Nat) (pins:List (Addr×Obj)) (s:Shared) (σ:St) (H:Hp) (E:Value ->Shared ->Prop),Inv X pins σ H s ->A0m X pins H it ->tn i s.heap ->J.go i H ->
   wpAny (model P w) X.A (pyNext (.ref it)) (fun r s1=>∃u,r=some u/\
     wpAny (model P w) X.A (letOwnedTupleGo tg (.ref it) u) (fun _ s2=>∃x,Inv X pins σ H s2/\RelV x u/\J.yld i H x H/\tn (i+1) s2.heap) E s1) E s
 done:∀(X:Cx),X.prog=P ->X.w=w ->X.K=K ->V0 X ->∀(i:Nat) (pins:List (Addr×Obj)) (s:Shared) (σ:St) (H:Hp) (E:Value ->Shared ->Prop),Inv X pins σ H s ->A0m X pins H it ->tn i s.heap ->J.stop i H ->
   wpAny (model P w) X.A (pyNext (.ref it)) (fun r s1=>r=none/\Inv X pins σ H s1) E s
 self:∀(A:Around) (i:Nat) (s:Shared) (Q:Value ->Shared ->Prop) (E:Value ->Shared ->Prop),tn i s.heap ->Q (.ref it) s ->wpAny (model P w) A (pyIter (.ref it)) Q E s
theorem A8w{P:Program}{w:World}{K:Frag}{tg:Expr}(a it:Addr):TurnH P w K tg (Itl K a) it (fun i h=>h.IsListIter it a i) where
 obj:=fun i h ⟨o,e,c,d⟩=>⟨o,e,fun v z=>by rw[d] at z;cases z⟩
 keep:=fun i h h' st k=>st.at fun o e=>k o e
 item:=by
   intro X hP hw hK hc i pins s σ H E I hf st hg
   subst hP hw hK
   obtain⟨xs,x,hq,hx⟩:=hg
   obtain⟨its,rv,p,hz⟩:=I.list hq
   obtain⟨u,hu,ru⟩:=rv.get hx
   obtain⟨f0,f1,f2,f3,f4,f5⟩:=hf
   refine wpAny_pyNext_list_item st p.isList (x:=u) (by simpa using hu) fun h' st' sb=>?_
   have I1:Inv X pins σ H {s with heap:=h'}:=I.turned (t':=s.toks) (fun b o hb e=>(sb.2 b hb).trans e) f0 f1 f3 f4 f5
   obtain⟨o,e,c,d⟩:=id st'
   exact⟨u,rfl,B3c (s:={s with heap:=h'}) e c d (by decide) ⟨x,I1,ru,⟨rfl,fun ys hy=>by rw[I.list_inj hy hq];exact hx⟩,st'⟩⟩
 done:=by
   intro X hP hw hK hc i pins s σ H E I hf st hg
   subst hP hw hK
   obtain⟨xs,hq,hx⟩:=hg
   obtain⟨its,rv,p,hz⟩:=I.list hq
   obtain⟨f0,f1,f2,f3,f4,f5⟩:=hf
   have hl:=rv.length
   exact A1u (I.hdB hc f0) st p.isList (by simp;omega) fun h' eb=>⟨rfl,I.turned (t':=s.toks) (fun b o hb e=>eb b o hb e) f0 f1 f3 f4 f5⟩
 self:=fun _ _ _ _ _ st h=>wpAny_pyIter_listiter st h
theorem B2e{P:Program}{w:World}{K:Frag}{tg:Expr}(a it:Addr):TurnH P w K tg (Itt K a) it (fun i h=>h.IsTupleIter it a i) where
 obj:=fun i h ⟨o,e,c,d⟩=>⟨o,e,fun v z=>by rw[d] at z;cases z⟩
 keep:=fun i h h' st k=>st.at fun o e=>k o e
 item:=by
   intro X hP hw hK hc i pins s σ H E I hf st hg
   subst hP hw hK
   obtain⟨xs,x,hq,hx⟩:=hg
   obtain⟨its,rv,p,hz⟩:=I.tuple hq
   obtain⟨u,hu,ru⟩:=rv.get hx
   obtain⟨f0,f1,f2,f3,f4,f5⟩:=hf
   refine wpAny_pyNext_tuple_item st (show s.heap.IsTuple a its.toArray from p) (x:=u) (by simpa using hu) fun h' st' sb=>?_
   have I1:Inv X pins σ H {s with heap:=h'}:=I.turned (t':=s.toks) (fun b o hb e=>(sb.2 b hb).trans e) f0 f1 f3 f4 f5
   obtain⟨o,e,c,d⟩:=id st'
   exact⟨u,rfl,B3c (s:={s with heap:=h'}) e c d (by decide) ⟨x,I1,ru,⟨rfl,fun ys hy=>by rw[I.tuple_inj hy hq];exact hx⟩,st'⟩⟩
 done:=by
   intro X hP hw hK hc i pins s σ H E I hf st hg
   subst hP hw hK
   obtain⟨xs,hq,hx⟩:=hg
   obtain⟨its,rv,p,hz⟩:=I.tuple hq
   obtain⟨f0,f1,f2,f3,f4,f5⟩:=hf
   have hl:=rv.length
   exact Z5 (I.hdB hc f0) st p (by simp;omega) fun h' eb=>⟨rfl,I.turned (t':=s.toks) (fun b o hb e=>eb b o hb e) f0 f1 f3 f4 f5⟩
 self:=fun _ _ _ _ _ st h=>wpAny_pyIter_tupleiter st h
noncomputable def PIH (X:Cx) (tg iter:Expr) (wi:TI):Prop:=
 ∀ (pins:List (Addr×Obj)) (s:Shared) (σ:St) (H:Hp) (R:It ->Hp ->Prop),Inv X pins σ H s ->wi σ H R ->
   wpAny (model X.prog X.w) X.A (eval iter X.env) (fun v s1=>wpAny (model X.prog X.w) X.A (pyIter v) (fun itv s2=>∃(it:Addr) (tn:Nat ->Heap ->Prop) (J:It) (H':Hp),itv= .ref it/\Inv X pins σ H' s2/\TurnH X.prog X.w X.K tg J it tn/\tn 0 s2.heap/\
     A0m X pins H' it/\R J H') X.xe s1) X.xe s
section
variable{X:Cx}{tg:Expr}
theorem B4p{l:Expr}{tl:TE}(hl:PE X l tl):PIH X tg l (B8g X.K tl):=by
 intro pins s σ H R I h
 refine thn (hl pins s σ H _ I h) fun v s1 hh_=>?_
 obtain⟨x,H1,I1,r1,q1⟩:=hh_
 obtain⟨a,e,⟨xs,hq⟩,q⟩:=q1
 subst e
 cases r1
 obtain⟨its,rv,p,hz⟩:=I1.list hq
 exact wpAny_pyIter_list p.isList ⟨s1.heap.objs.size,_,_,H1,rfl,I1.kept (t':=s1.toks) fun b o e=>Heap.get?_push_of_some _ e,A8w a _,⟨_,Heap.get?_push_size _ rfl,rfl,rfl⟩,I1.fpOk (Nat.le_refl _) (I1.hok.fresh (Nat.le_refl _)),q⟩
theorem B7p{l:Expr}{tl:TE}(hl:PE X l tl):PIH X tg l (C3k X.K tl):=by
 intro pins s σ H R I h
 refine thn (hl pins s σ H _ I h) fun v s1 hh_=>?_
 obtain⟨x,H1,I1,r1,q1⟩:=hh_
 obtain⟨a,e,⟨xs,hq⟩,q⟩:=q1
 subst e
 cases r1
 obtain⟨its,rv,p,hz⟩:=I1.tuple hq
 exact wpAny_pyIter_tuple (show s1.heap.IsTuple a its.toArray from p) ⟨s1.heap.objs.size,_,_,H1,rfl,I1.kept (t':=s1.toks) fun b o e=>Heap.get?_push_of_some _ e,B2e a _,⟨_,Heap.get?_push_size _ rfl,rfl,rfl⟩,I1.fpOk (Nat.le_refl _) (I1.hok.fresh (Nat.le_refl _)),q⟩
theorem B6q{es:List Expr}{k:Nat}{t:TGs}{n:Nat}{pos:Pos}(hc:V0 X)(h:PGs X es t)(hn:(assignEach es X.env).length=n:=by rfl)(hst:(assignEach es X.env).findIdx? (·.1)=none:=by rfl):PG X (.Tuple es k pos) (B7j X.K n t):=by
 intro pins s σ H v u Q I r q
 obtain⟨a,xs,ev,hq,hl,q⟩:=q
 subst ev
 cases r
 obtain⟨its,rv,p,hz⟩:=I.tuple hq
 rw[assign_Tuple]
 refine wpAny_bind (wpAny_standAt (B1t (I.hdA hc) p (by rw[hn, <-hl,rv.length];simp) hst fun h' hx=>?_))
 have I1:Inv X pins σ H {s with heap:=h'}:=I.kept (t':=s.toks) fun b o e=>hx b o (Nat.ne_of_lt (Heap.lt_size e)) e
 exact thn (h pins _ σ H xs its Q I1 rv q) fun _ s' z=>z
theorem B7q{K:Frag}{es:List Expr}{k:Nat}{t:TGs}{n:Nat}{pos:Pos}(hK:X.K=K)(hc:V0 X)(h:PGs X es t)(hn:(assignEach es X.env).length=n:=by rfl)(hst:(assignEach es X.env).findIdx? (·.1)=none:=by rfl):PG X (.Tuple es k pos) (B7j K n t):=by
 subst hK
 exact B6q hc h hn hst
end
noncomputable abbrev Cx.comp (X:Cx) (scope:Scope) (N:List Str) (C:Addr) (s₀:Shared) (H₀:Hp) (ex:List Addr) (pins:List (Addr×Obj)):Cx:=
 {X with N:=N,s₀:=s₀,H₀:=H₀,env:=compEnv scope C X.env,outer:=X.stack,ex:=ex,fn:=fun _=>false,pn:=pins,xe:=fun _ _=>False}
structure CompScope(N:List Str)(sc:Scope):Prop where
 kind:sc.kind= .function
 free:∀y∈sc.names,y.2≠ .free
 cell:∀y∈sc.names,y.2≠ .cell
 loc:∀y∈sc.names,y.2= .local ->sc.names.lookup y.1=some .local
 nd:N.Nodup
noncomputable def B4h (n:Nat) (wi:TI) (g:TG) (tc:TT) (te:TE):TE:=fun σ H Q=>wi σ H fun J H1=>∀D,H1 D=none ->
 ∃ (m:Nat) (W:Nat ->List V ->Hp ->Prop),W 0 [] (upd H1 D (.lst []))/\∀i ys H2,W i ys H2 ->i<=m/\H2 D=some (.lst ys)/\((J.stop i H2/\Q (.ref D) H2)\/(i<m/\J.go i H2/\∀x H3,J.yld i H2 x H3 ->
   g x (List.replicate n none) H3 fun σ4 H4=>tc σ4 H4 fun b H5=>if b=true then te σ4 H5 fun y H6=>H6 D=some (.lst ys)/\ys.length<sizeLine/\W (i+1) (ys++ [y]) (upd H6 D (.lst (ys++ [y]))) else W (i+1) ys H5))
noncomputable def B4b (n:Nat) (wi:TI) (g:TG) (te:TE):TE:=fun σ H Q=>wi σ H fun J H1=>∀D,H1 D=none ->
 ∃ (m:Nat) (W:Nat ->List V ->Hp ->Prop),W 0 [] (upd H1 D (.lst []))/\∀i ys H2,W i ys H2 ->i<=m/\H2 D=some (.lst ys)/\((J.stop i H2/\Q (.ref D) H2)\/(i<m/\J.go i H2/\∀x H3,J.yld i H2 x H3 ->
   g x (List.replicate n none) H3 fun σ4 H4=>te σ4 H4 fun y H6=>H6 D=some (.lst ys)/\ys.length<sizeLine/\W (i+1) (ys++ [y]) (upd H6 D (.lst (ys++ [y])))))
theorem B3w{prog:Program}{w:World}{A:Around}{s:Shared}{elt target iter:Expr}{scope:Scope}{pos:Pos}{it acc:Value}{env:Env}{R:Result ->Shared ->Prop}(I:Nat ->Shared ->Prop)
   (turn :∀n s,I n s ->wpAny (model prog w) A (pyNext it) (fun r s₁=>match r with
     |none=>R (.ok .next) s₁
     |some v=>wpAny (model prog w) A (letOwnedTupleGo target it v) (fun _ s₀=>wpAny (model prog w) A (assign target env v) (fun _ s₂=>wpAny (model prog w) A (eval elt env) (fun x s₄=>
         wpAny (model prog w) A (call (.builtin "list.append") [acc,x]) (fun _ s₅=>∃m,m<n/\I m s₅) (notedBy (model prog w) A env fun e s'=>R (.error e) s') s₄) (notedBy (model prog w) A env fun e s'=>R (.error e) s') s₂)
         (notedBy (model prog w) A env fun e s'=>R (.error e) s') s₀) (notedBy (model prog w) A env fun e s'=>R (.error e) s') s₁) (notedBy (model prog w) A env fun e s'=>R (.error e) s') s)
   (n:Nat) (h:I n s):codeAny (model prog w) A (.compLoop (.ListComp elt [⟨target,iter,[],0⟩] scope pos) 0 it acc env) R s:=by
 refine codeAny_loop rfl I (fun n s hI=>?_) n h
 show wpAny _ A ((compTurn (.ListComp elt [⟨target,iter,[],0⟩] scope pos) 0 it acc env).onRaise (fun x=>do noteFrame x env;theTreesLotGoes x)) _ _ s
 refine wpAny_noted ?_;rw[compTurn_list1]
 refine wpAny_bind (wpAny_standAt (wpAny_bind (wpAny_mono (turn n s hI) (fun r s₁ h₁=>?_) fun _ _ z=>z)))
 cases r with
 |none=>exact wpAny_pure h₁
 | some v=>
   refine wpAny_bind (wpAny_mono h₁ (fun _ s₀ q₀=>?_) fun _ _ z=>z)
   refine wpAny_bind (wpAny_mono q₀ (fun _ s₂ q₂=>?_) fun _ _ z=>z)
   exact wpAny_bind (wpAny_bind (wpAny_mono q₂ (fun x s₄ q₄=>wpAny_bind (wpAny_mono q₄ (fun _ s₅ q₅=>wpAny_pure (wpAny_pure ⟨rfl,q₅⟩)) fun _ _ z=>z)) fun _ _ z=>z))
section
variable{X:Cx}
theorem A7f{pins:List (Addr×Obj)}{σ:St}{H:Hp}{s:Shared}{scope:Scope}{N:List Str}{it:Addr}{h':Heap}(S:CompScope N scope)(I:Inv X pins σ H s)(hf:A0m X pins H it)(hit:∃o,s.heap.get? it=some o)(hnb:X.base.get? it=none)
   (hns:h'.Ns s.heap.objs.size (fun _=>none)) (hsb:∀b o,s.heap.get? b=some o ->h'.get? b=some o) {tk:Nat}:
   Inv (X.comp scope N s.heap.objs.size s H [it] (X.pn++pins)) [] (List.replicate N.length none) H {s with heap:=h',toks:=tk}:=by
 obtain⟨f0,f1,f2,f3,f4,f5⟩:=hf
 obtain⟨oi,ei⟩:=hit
 have lt:it<s.heap.objs.size:=Heap.lt_size ei
 have nc:∀x c,(compEnv scope s.heap.objs.size X.env).cells.lookup x=some c ->False:=fun x c z=>by cases z
 have nk:∀x,¬((compEnv scope s.heap.objs.size X.env).kindOf x=some .cell\/(compEnv scope s.heap.objs.size X.env).kindOf x=some .free):=by
   intro x z
   have z:scope.names.lookup x=some .cell\/scope.names.lookup x=some .free:=z
   rcases z with z|z
   . exact S.cell _ (PySem.mem_of_lookup z) rfl
   . exact S.free _ (PySem.mem_of_lookup z) rfl
 refine⟨⟨I.ok.mod,S.kind,I.ok.glob,I.ok.blt,Nat.le_refl _,fun x y c z=>(nc x c z).elim,fun x z=>(nk x z).elim,fun x c _ z=>(nc x c z).elim,I.ok.hd,I.ok.frames,.inl rfl,fun b hb=>?_,I.bs,Nat.le_trans I.ok.bsz I.sz,fun b o e hb=>?_,fun b hb hfs=>?_,I.stack,I.stkFree⟩,
   rfl,I.bare,Un.kept hsb,⟨_,hns,fun i x v e1 e2 e3=>?_⟩,fun x c z=>(nc x c z).elim,I.hok.fresh (Nat.le_refl _),fun x c z=>(nc x c z).elim,fun p hp=>?_,I.hok.kept hsb,by simp⟩
 . have e:b=it:=by simpa using hb
   subst e
   exact⟨Nat.ne_of_lt lt,fun x c z=>(nc x c z).elim⟩
 . have e':b=it:=by simpa using hb
   subst e'
   rw[hnb] at e
   cases e
 . have e':b=it:=by simpa using hb
   subst e'
   rcases List.mem_cons.mp (I.stkSub b hfs) with z|z
   . exact f1 z
   . exact f2 z
 . rw[List.getElem?_replicate] at e2
   split at e2<;>cases e2
 . have hp':p∈X.pn++pins:=by simpa using hp
   obtain⟨q1,q2,q3,q4,q5⟩:=I.pin p hp'
   refine⟨hsb _ _ q1,q2,Nat.ne_of_lt (Heap.lt_size q1),fun z=>?_,q5⟩
   rcases List.mem_cons.mp (I.stkSub p.1 z) with z|z
   . exact q3 z
   . exact q4 z
theorem B2q{elt target iter c:Expr}{scope:Scope}{pos:Pos}{N:List Str}{wi:TI}{g:TG}{tc:TT}{te:TE}(S:CompScope N scope)(hd:V0 X)(hi:PIH X target iter wi)(hex:X.ex=[])
   (hg:∀C s₀ H₀ ex pn,V0 (X.comp scope N C s₀ H₀ ex pn) ->PG (X.comp scope N C s₀ H₀ ex pn) target g)
   (hc:∀C s₀ H₀ ex pn,V0 (X.comp scope N C s₀ H₀ ex pn) ->PT (X.comp scope N C s₀ H₀ ex pn) c tc)
   (he:∀C s₀ H₀ ex pn,V0 (X.comp scope N C s₀ H₀ ex pn) ->PE (X.comp scope N C s₀ H₀ ex pn) elt te)
   {pins:List (Addr×Obj)} {s:Shared} {σ:St} {H:Hp} {Q:VK} {RR:Value ->Env ->Result ->Shared ->Prop} (I:Inv X pins σ H s) (h:(B4h N.length wi g tc te) σ H Q)
   (hRR:∀(D C:Addr) (s6:Shared) (H5:Hp) (mm:Str ->Option Value),Inv X pins σ H5 s6 ->s6.heap.Ns C mm ->A0m X pins H5 C ->Q (.ref D) H5 ->RR (.ref D) (compEnv scope C X.env) (.ok .next) s6):
   wpAny (model X.prog X.w) X.A (eval iter X.env) (fun v s1=>wpAny (model X.prog X.w) X.A (pyIter v) (fun itv s2=>wpAny (model X.prog X.w) X.A (newList []) (fun acc s3=>wpAny (model X.prog X.w) X.A (newFunctionEnv scope X.env.globals [] [] X.env.qual none .none (some X.env)) (fun cenv s4=>
     codeAny (model X.prog X.w) X.A (.compStart (.ListComp elt [⟨target,iter,[c],0⟩] scope pos) 0 itv acc {cenv with scope:=scope}) (RR acc {cenv with scope:=scope}) s4) X.xe s3) X.xe s2) X.xe s1) X.xe s:=by
 refine thn (hi pins s σ H _ I h) fun v s1 h1=>thn h1 fun itv s2 h2=>?_
 obtain⟨it,tn,J,H2,rfl,I2,T,st2,f2,R⟩:=h2
 obtain⟨oi,ei,di⟩:=T.obj _ _ st2
 have hf2:=I2.hok.fresh (Nat.le_refl _)
 refine wpAny_newObj_type ?_
 have I3:Inv X pins σ (upd H2 s2.heap.objs.size (.lst [])) {s2 with heap:=s2.heap.push {cls:= .type "list",dict:=none,data:= .seq ([]:List Value).toArray}}:=Inv.lnew (t':=s2.toks) I2 .nil (Nat.zero_le _)
 refine wpAny_newFunctionEnv S.cell (by intro y hy;simp at hy) (fun h4 hns hsb=>?_) S.kind
 dsimp only at hns hsb ⊢
 generalize hG:s2.heap.push {cls:= .type "list",dict:=none,data:= .seq ([]:List Value).toArray}=G at I3 hns hsb ⊢
 generalize hD:s2.heap.objs.size=D at I3 hf2
 have nD:it≠D:=by rw[<-hD];exact Nat.ne_of_lt (Heap.lt_size ei)
 have eiG:G.get? it=some oi:=by rw[<-hG];exact Heap.get?_push_of_some _ ei
 have kp:∀b o,G.get? b=some o ->h4.get? b=some o:=fun b o e=>hsb.extBut b o (Nat.ne_of_lt (Heap.lt_size e)) (Heap.get?_push_of_some _ e)
 have f3:A0m X pins (upd H2 D (.lst [])) it:=⟨by rw[C8 nD];exact f2.1,f2.2⟩
 have nb:X.base.get? it=none:=by
   cases q:X.base.get? it with
   |none=>rfl
   | some o=>
     have:=(I.ok.bs it o q).1
     rcases f2.2.2.2.1 with z|z
     . rw[hex] at z;simp at z
     . exact absurd (Nat.lt_of_lt_of_le (Heap.lt_size this) z) (Nat.lt_irrefl _)
 have hns':h4.Ns G.objs.size (fun _=>none):=by
   obtain⟨o,es,ep,q1,q2,q3,q4⟩:=hns
   exact⟨o,es,ep,q1,q2,q3,fun x=>by rw[q4];rfl⟩
 have I4:=A7f (tk:=s2.toks+([]:List (Str×Value)).length) S I3 f3 ⟨oi,eiG⟩ nb hns' kp
 have hdc:V0 (X.comp scope N G.objs.size {s2 with heap:=G} (upd H2 D (.lst [])) [it] (X.pn++pins)):=by
   rcases hd with z|⟨x,o,u,vs,z,e,d,n⟩
   . exact .inl z
   . refine .inr ⟨x,o,u,vs,z,?_,d,n⟩
     have q:=I2.base.frzs x o u e
     show upd H2 D (.lst []) x=_
     rw[C8 fun w=>by rw[w,hf2] at q;cases q]
     exact q
 obtain⟨m,W,w0,turn⟩:=R D hf2
 have gg:=hg _ _ _ _ _ hdc
 have cc:=hc _ _ _ _ _ hdc
 have ee:=he _ _ _ _ _ hdc
 have fpc:∀{H':Hp} {σ':St} {s':Shared} {pl:List (Addr×Obj)},Inv (X.comp scope N G.objs.size {s2 with heap:=G} (upd H2 D (.lst [])) [it] (X.pn++pins)) pl σ' H' s' ->H' it=none ->(∀p∈pl,p.1≠it) ->A0m (X.comp scope N G.objs.size {s2 with heap:=G} (upd H2 D (.lst [])) [it] (X.pn++pins)) pl H' it:=by
   intro H' σ' s' pl J' hn hp
   refine⟨hn,Nat.ne_of_lt (Heap.lt_size eiG),?_,.inl (List.mem_singleton.mpr rfl),(fun x c z=>nomatch z),fun p hpp=>?_⟩
   . intro z
     rcases List.mem_cons.mp (I.stkSub it z) with z|z
     . exact f2.2.1 z
     . exact f2.2.2.1 z
   . rcases List.mem_append.mp hpp with z|z
     . exact f2.2.2.2.2.2 p z
     . exact hp p z
 have loop:codeAny (model X.prog X.w) X.A (.compLoop (.ListComp elt [⟨target,iter,[c],0⟩] scope pos) 0 (.ref it) (.ref D) (compEnv scope G.objs.size X.env))
     (RR (.ref D) (compEnv scope G.objs.size X.env))
     {s2 with heap:=h4,toks:=s2.toks+([]:List (Str×Value)).length}:=by
   refine kct_loop (fun k s'=>∃i ys H',k=m+1-i/\Inv (X.comp scope N G.objs.size {s2 with heap:=G} (upd H2 D (.lst [])) [it] (X.pn++pins)) [] (List.replicate N.length none) H' s'/\tn i s'.heap/\H' it=none/\W i ys H') ?_ (m+1)
     ⟨0,[],_,rfl,I4,T.keep _ _ _ st2 fun o e=>kp it o (by rw[<-hG];exact Heap.get?_push_of_some _ e),f3.1,w0⟩
   rintro k s5 ⟨i,ys,H5,rfl,I5,st5,n5,w5⟩
   obtain⟨hi5,hD5,w5⟩:=turn i ys H5 w5
   rcases w5 with⟨stop,q⟩|⟨lt5,go,step⟩
   . refine wpAny_mono (T.done (X.comp scope N G.objs.size {s2 with heap:=G} (upd H2 D (.lst [])) [it] (X.pn++pins)) rfl rfl rfl hdc i [] s5 _ H5 (fun _ _=>False) I5 (fpc I5 n5 (by simp)) st5 stop) (fun r s6 z=>?_) (fun _ _ z=>z.elim)
     obtain⟨rfl,I6⟩:=z
     obtain⟨mm,hn6,_⟩:=I6.loc
     have B6:=I6.base
     have J6:Inv X pins σ H5 s6:=by
       refine I3.call' (ch:=[it]) I6.os ⟨B6.keep,B6.slot,B6.free,B6.there,B6.tups,B6.frzs,B6.tbls⟩ I6.hok I6.bare (fun b hb=>?_)
       have e:b=it:=by simpa using hb
       subst e
       exact⟨f2.2.2.2.1,f2.2.1,f2.2.2.2.2.1,f2.2.2.2.2.2⟩
     have szG:X.s₀.heap.objs.size<=G.objs.size:=I3.sz
     refine hRR D G.objs.size s6 H5 mm J6 hn6 ⟨I6.free,?_,?_,.inr szG,?_,?_⟩ q
     . exact Nat.ne_of_gt I3.lt
     . intro z
       obtain⟨_,o,ho,_⟩:=I3.funs.mem z
       exact Nat.lt_irrefl _ (Heap.lt_size ho)
     . rintro x c z rfl
       obtain⟨v',o,ho,_⟩:=I3.cell x _ z
       exact Nat.lt_irrefl _ (Heap.lt_size ho)
     . rintro p hp z
       have zz:=(I3.pin p hp).1
       rw[z] at zz
       exact Nat.lt_irrefl _ (Heap.lt_size zz)
   . refine wpAny_mono (T.item (X.comp scope N G.objs.size {s2 with heap:=G} (upd H2 D (.lst [])) [it] (X.pn++pins)) rfl rfl rfl hdc i [] s5 _ H5 (fun _ _=>False) I5 (fpc I5 n5 (by simp)) st5 go) (fun r s6 z=>?_) (fun _ _ z=>z.elim)
     obtain⟨u,rfl,z⟩:=z
     refine wpAny_mono z (fun _ s7 z=>?_) (fun _ _ z=>z.elim)
     obtain⟨x,I7,rx,yl,st7⟩:=z
     obtain⟨o7,e7,d7⟩:=T.obj _ _ st7
     obtain⟨p0,p1,p2,_⟩:=fpc I7 n5 (by simp)
     have I7':Inv (X.comp scope N G.objs.size {s2 with heap:=G} (upd H2 D (.lst [])) [it] (X.pn++pins)) [(it,o7)] (List.replicate N.length none) H5 s7:=I7.pins_of fun p hp=>by
       have e:p=(it,o7):=by simpa using hp
       subst e
       exact⟨e7,p0,p1,p2,d7⟩
     have back:∀{i':Nat} {ys':List V} {H':Hp} {σ':St} {s':Shared},i'=i+1 ->Inv (X.comp scope N G.objs.size {s2 with heap:=G} (upd H2 D (.lst [])) [it] (X.pn++pins)) [(it,o7)] σ' H' s' ->W i' ys' H' ->
         ∃k',k'<m+1-i/\∃i ys H',k'=m+1-i/\Inv (X.comp scope N G.objs.size {s2 with heap:=G} (upd H2 D (.lst [])) [it] (X.pn++pins)) [] (List.replicate N.length none) H' s'/\tn i s'.heap/\H' it=none/\W i ys H':=by
       rintro i' ys' H' σ' s' rfl J' w'
       obtain⟨q1,q2,_⟩:=J'.pin (it,o7) (List.mem_append_right _ (List.mem_singleton.mpr rfl))
       have jl:σ'.length=N.length:=J'.len
       refine⟨m+1-(i+1),by omega,i+1,ys',H',rfl,Inv.weak (J'.pins_of fun p hp=>absurd hp (by simp)) (by rw[jl];simp) (fun j v z=>?_),T.keep _ _ _ st7 fun o z=>?_,q2,w'⟩
       . rw[List.getElem?_replicate] at z
         split at z<;>cases z
       . rw[e7] at z
         cases z
         exact q1
     refine wpAny_mono (gg [(it,o7)] s7 _ H5 x u _ I7' rx (step x H5 yl)) (fun _ s8 z=>?_) (fun _ _ z=>z.elim)
     obtain⟨σ8,H8,I8,q8⟩:=z
     refine wpAny_mono (cc [(it,o7)] s8 σ8 H8 _ I8 q8) (fun b s9 z=>?_) (fun _ _ z=>z.elim)
     obtain⟨H9,I9,q9⟩:=z
     cases b with
     | false=>
       simp only[Bool.false_eq_true,if_false] at q9 ⊢
       exact back rfl I9 q9
     | true=>
       simp only[if_true] at q9 ⊢
       refine wpAny_mono (ee [(it,o7)] s9 σ8 H9 _ I9 q9) (fun y s10 z=>?_) (fun _ _ z=>z.elim)
       obtain⟨yv,H10,I10,ry,hD10,hz10,w10⟩:=z
       refine wpAny_mono (A4t (X:=X.comp scope N G.objs.size {s2 with heap:=G} (upd H2 D (.lst [])) [it] (X.pn++pins)) [(it,o7)] s10 σ8 H10 (.ref D) [yv] (.ref D) [y] (fun _ H11=>W (i+1) (ys++ [yv]) H11) I10 rfl (.cons ry .nil) ⟨D,ys,yv,rfl,rfl,hD10,hz10,w10⟩) (fun _ s11 z=>?_) (fun _ _ z=>z.elim)
       obtain⟨_,H11,I11,_,w11⟩:=z
       exact back rfl I11 w11
 exact codeAny_compStart_list loop (T.self _ 0 _ _ _ (T.keep _ _ _ st2 fun o e=>kp it o (by rw[<-hG];exact Heap.get?_push_of_some _ e)) loop)
theorem A8t{elt target iter:Expr}{scope:Scope}{pos:Pos}{N:List Str}{wi:TI}{g:TG}{te:TE}(S:CompScope N scope)(hd:V0 X)(hi:PIH X target iter wi)(hex:X.ex=[])
   (hg:∀C s₀ H₀ ex pn,V0 (X.comp scope N C s₀ H₀ ex pn) ->PG (X.comp scope N C s₀ H₀ ex pn) target g)
   (he:∀C s₀ H₀ ex pn,V0 (X.comp scope N C s₀ H₀ ex pn) ->PE (X.comp scope N C s₀ H₀ ex pn) elt te)
   {pins:List (Addr×Obj)} {s:Shared} {σ:St} {H:Hp} {Q:VK} {RR:Value ->Env ->Result ->Shared ->Prop} (I:Inv X pins σ H s) (h:(B4b N.length wi g te) σ H Q)
   (hRR:∀(D C:Addr) (s6:Shared) (H5:Hp) (mm:Str ->Option Value),Inv X pins σ H5 s6 ->s6.heap.Ns C mm ->A0m X pins H5 C ->Q (.ref D) H5 ->RR (.ref D) (compEnv scope C X.env) (.ok .next) s6):
   wpAny (model X.prog X.w) X.A (eval iter X.env) (fun v s1=>wpAny (model X.prog X.w) X.A (pyIter v) (fun itv s2=>wpAny (model X.prog X.w) X.A (newList []) (fun acc s3=>wpAny (model X.prog X.w) X.A (newFunctionEnv scope X.env.globals [] [] X.env.qual none .none (some X.env)) (fun cenv s4=>
     codeAny (model X.prog X.w) X.A (.compStart (.ListComp elt [⟨target,iter,[],0⟩] scope pos) 0 itv acc {cenv with scope:=scope}) (RR acc {cenv with scope:=scope}) s4) X.xe s3) X.xe s2) X.xe s1) X.xe s:=by
 refine thn (hi pins s σ H _ I h) fun v s1 h1=>thn h1 fun itv s2 h2=>?_
 obtain⟨it,tn,J,H2,rfl,I2,T,st2,f2,R⟩:=h2
 obtain⟨oi,ei,di⟩:=T.obj _ _ st2
 have hf2:=I2.hok.fresh (Nat.le_refl _)
 refine wpAny_newObj_type ?_
 have I3:Inv X pins σ (upd H2 s2.heap.objs.size (.lst [])) {s2 with heap:=s2.heap.push {cls:= .type "list",dict:=none,data:= .seq ([]:List Value).toArray}}:=Inv.lnew (t':=s2.toks) I2 .nil (Nat.zero_le _)
 refine wpAny_newFunctionEnv S.cell (by intro y hy;simp at hy) (fun h4 hns hsb=>?_) S.kind
 dsimp only at hns hsb ⊢
 generalize hG:s2.heap.push {cls:= .type "list",dict:=none,data:= .seq ([]:List Value).toArray}=G at I3 hns hsb ⊢
 generalize hD:s2.heap.objs.size=D at I3 hf2
 have nD:it≠D:=by rw[<-hD];exact Nat.ne_of_lt (Heap.lt_size ei)
 have eiG:G.get? it=some oi:=by rw[<-hG];exact Heap.get?_push_of_some _ ei
 have kp:∀b o,G.get? b=some o ->h4.get? b=some o:=fun b o e=>hsb.extBut b o (Nat.ne_of_lt (Heap.lt_size e)) (Heap.get?_push_of_some _ e)
 have f3:A0m X pins (upd H2 D (.lst [])) it:=⟨by rw[C8 nD];exact f2.1,f2.2⟩
 have nb:X.base.get? it=none:=by
   cases q:X.base.get? it with
   |none=>rfl
   | some o=>
     have:=(I.ok.bs it o q).1
     rcases f2.2.2.2.1 with z|z
     . rw[hex] at z;simp at z
     . exact absurd (Nat.lt_of_lt_of_le (Heap.lt_size this) z) (Nat.lt_irrefl _)
 have hns':h4.Ns G.objs.size (fun _=>none):=by
   obtain⟨o,es,ep,q1,q2,q3,q4⟩:=hns
   exact⟨o,es,ep,q1,q2,q3,fun x=>by rw[q4];rfl⟩
 have I4:=A7f (tk:=s2.toks+([]:List (Str×Value)).length) S I3 f3 ⟨oi,eiG⟩ nb hns' kp
 have hdc:V0 (X.comp scope N G.objs.size {s2 with heap:=G} (upd H2 D (.lst [])) [it] (X.pn++pins)):=by
   rcases hd with z|⟨x,o,u,vs,z,e,d,n⟩
   . exact .inl z
   . refine .inr ⟨x,o,u,vs,z,?_,d,n⟩
     have q:=I2.base.frzs x o u e
     show upd H2 D (.lst []) x=_
     rw[C8 fun w=>by rw[w,hf2] at q;cases q]
     exact q
 obtain⟨m,W,w0,turn⟩:=R D hf2
 have gg:=hg _ _ _ _ _ hdc
 have ee:=he _ _ _ _ _ hdc
 have fpc:∀{H':Hp} {σ':St} {s':Shared} {pl:List (Addr×Obj)},Inv (X.comp scope N G.objs.size {s2 with heap:=G} (upd H2 D (.lst [])) [it] (X.pn++pins)) pl σ' H' s' ->H' it=none ->(∀p∈pl,p.1≠it) ->A0m (X.comp scope N G.objs.size {s2 with heap:=G} (upd H2 D (.lst [])) [it] (X.pn++pins)) pl H' it:=by
   intro H' σ' s' pl J' hn hp
   refine⟨hn,Nat.ne_of_lt (Heap.lt_size eiG),?_,.inl (List.mem_singleton.mpr rfl),(fun x c z=>nomatch z),fun p hpp=>?_⟩
   . intro z
     rcases List.mem_cons.mp (I.stkSub it z) with z|z
     . exact f2.2.1 z
     . exact f2.2.2.1 z
   . rcases List.mem_append.mp hpp with z|z
     . exact f2.2.2.2.2.2 p z
     . exact hp p z
 have loop:codeAny (model X.prog X.w) X.A (.compLoop (.ListComp elt [⟨target,iter,[],0⟩] scope pos) 0 (.ref it) (.ref D) (compEnv scope G.objs.size X.env))
     (RR (.ref D) (compEnv scope G.objs.size X.env))
     {s2 with heap:=h4,toks:=s2.toks+([]:List (Str×Value)).length}:=by
   refine B3w (fun k s'=>∃i ys H',k=m+1-i/\Inv (X.comp scope N G.objs.size {s2 with heap:=G} (upd H2 D (.lst [])) [it] (X.pn++pins)) [] (List.replicate N.length none) H' s'/\tn i s'.heap/\H' it=none/\W i ys H') ?_ (m+1)
     ⟨0,[],_,rfl,I4,T.keep _ _ _ st2 fun o e=>kp it o (by rw[<-hG];exact Heap.get?_push_of_some _ e),f3.1,w0⟩
   rintro k s5 ⟨i,ys,H5,rfl,I5,st5,n5,w5⟩
   obtain⟨hi5,hD5,w5⟩:=turn i ys H5 w5
   rcases w5 with⟨stop,q⟩|⟨lt5,go,step⟩
   . refine wpAny_mono (T.done (X.comp scope N G.objs.size {s2 with heap:=G} (upd H2 D (.lst [])) [it] (X.pn++pins)) rfl rfl rfl hdc i [] s5 _ H5 (fun _ _=>False) I5 (fpc I5 n5 (by simp)) st5 stop) (fun r s6 z=>?_) (fun _ _ z=>z.elim)
     obtain⟨rfl,I6⟩:=z
     obtain⟨mm,hn6,_⟩:=I6.loc
     have B6:=I6.base
     have J6:Inv X pins σ H5 s6:=by
       refine I3.call' (ch:=[it]) I6.os ⟨B6.keep,B6.slot,B6.free,B6.there,B6.tups,B6.frzs,B6.tbls⟩ I6.hok I6.bare (fun b hb=>?_)
       have e:b=it:=by simpa using hb
       subst e
       exact⟨f2.2.2.2.1,f2.2.1,f2.2.2.2.2.1,f2.2.2.2.2.2⟩
     have szG:X.s₀.heap.objs.size<=G.objs.size:=I3.sz
     refine hRR D G.objs.size s6 H5 mm J6 hn6 ⟨I6.free,?_,?_,.inr szG,?_,?_⟩ q
     . exact Nat.ne_of_gt I3.lt
     . intro z
       obtain⟨_,o,ho,_⟩:=I3.funs.mem z
       exact Nat.lt_irrefl _ (Heap.lt_size ho)
     . rintro x c z rfl
       obtain⟨v',o,ho,_⟩:=I3.cell x _ z
       exact Nat.lt_irrefl _ (Heap.lt_size ho)
     . rintro p hp z
       have zz:=(I3.pin p hp).1
       rw[z] at zz
       exact Nat.lt_irrefl _ (Heap.lt_size zz)
   . refine wpAny_mono (T.item (X.comp scope N G.objs.size {s2 with heap:=G} (upd H2 D (.lst [])) [it] (X.pn++pins)) rfl rfl rfl hdc i [] s5 _ H5 (fun _ _=>False) I5 (fpc I5 n5 (by simp)) st5 go) (fun r s6 z=>?_) (fun _ _ z=>z.elim)
     obtain⟨u,rfl,z⟩:=z
     refine wpAny_mono z (fun _ s7 z=>?_) (fun _ _ z=>z.elim)
     obtain⟨x,I7,rx,yl,st7⟩:=z
     obtain⟨o7,e7,d7⟩:=T.obj _ _ st7
     obtain⟨p0,p1,p2,_⟩:=fpc I7 n5 (by simp)
     have I7':Inv (X.comp scope N G.objs.size {s2 with heap:=G} (upd H2 D (.lst [])) [it] (X.pn++pins)) [(it,o7)] (List.replicate N.length none) H5 s7:=I7.pins_of fun p hp=>by
       have e:p=(it,o7):=by simpa using hp
       subst e
       exact⟨e7,p0,p1,p2,d7⟩
     have back:∀{i':Nat} {ys':List V} {H':Hp} {σ':St} {s':Shared},i'=i+1 ->Inv (X.comp scope N G.objs.size {s2 with heap:=G} (upd H2 D (.lst [])) [it] (X.pn++pins)) [(it,o7)] σ' H' s' ->W i' ys' H' ->
         ∃k',k'<m+1-i/\∃i ys H',k'=m+1-i/\Inv (X.comp scope N G.objs.size {s2 with heap:=G} (upd H2 D (.lst [])) [it] (X.pn++pins)) [] (List.replicate N.length none) H' s'/\tn i s'.heap/\H' it=none/\W i ys H':=by
       rintro i' ys' H' σ' s' rfl J' w'
       obtain⟨q1,q2,_⟩:=J'.pin (it,o7) (List.mem_append_right _ (List.mem_singleton.mpr rfl))
       have jl:σ'.length=N.length:=J'.len
       refine⟨m+1-(i+1),by omega,i+1,ys',H',rfl,Inv.weak (J'.pins_of fun p hp=>absurd hp (by simp)) (by rw[jl];simp) (fun j v z=>?_),T.keep _ _ _ st7 fun o z=>?_,q2,w'⟩
       . rw[List.getElem?_replicate] at z
         split at z<;>cases z
       . rw[e7] at z
         cases z
         exact q1
     refine wpAny_mono (gg [(it,o7)] s7 _ H5 x u _ I7' rx (step x H5 yl)) (fun _ s8 z=>?_) (fun _ _ z=>z.elim)
     obtain⟨σ8,H8,I8,q8⟩:=z
     refine wpAny_mono (ee [(it,o7)] s8 σ8 H8 _ I8 q8) (fun y s10 z=>?_) (fun _ _ z=>z.elim)
     obtain⟨yv,H10,I10,ry,hD10,hz10,w10⟩:=z
     refine wpAny_mono (A4t (X:=X.comp scope N G.objs.size {s2 with heap:=G} (upd H2 D (.lst [])) [it] (X.pn++pins)) [(it,o7)] s10 σ8 H10 (.ref D) [yv] (.ref D) [y] (fun _ H11=>W (i+1) (ys++ [yv]) H11) I10 rfl (.cons ry .nil) ⟨D,ys,yv,rfl,rfl,hD10,hz10,w10⟩) (fun _ s11 z=>?_) (fun _ _ z=>z.elim)
     obtain⟨_,H11,I11,_,w11⟩:=z
     exact back rfl I11 w11
 exact codeAny_compStart_list loop (T.self _ 0 _ _ _ (T.keep _ _ _ st2 fun o e=>kp it o (by rw[<-hG];exact Heap.get?_push_of_some _ e)) loop)
theorem B8b{pins:List (Addr×Obj)}{σ:St}{H:Hp}{s:Shared}{C:Addr}{h':Heap}(I:Inv X pins σ H s)(f:A0m X pins H C)(sb:Heap.SameBut C s.heap h'):Inv X pins σ H {s with heap:=h'}:=
 I.turned (t':=s.toks) (fun b o hb e=>(sb.2 b hb).trans e) f.1 f.2.1 f.2.2.2.1 f.2.2.2.2.1 f.2.2.2.2.2
theorem B6x{i:Nat}{y:Str}{py spos:Pos}{elt target iter:Expr}{c:Expr}{tc:TT}{scope:Scope}{pos:Pos}{N:List Str}{wi:TI}{g:TG}{te:TE}(S:CompScope N scope)(hd:V0 X)(hi:PIH X target iter wi)(hex:X.ex=[])
   (hg:∀C s₀ H₀ ex pn,V0 (X.comp scope N C s₀ H₀ ex pn) ->PG (X.comp scope N C s₀ H₀ ex pn) target g)
   (hc:∀C s₀ H₀ ex pn,V0 (X.comp scope N C s₀ H₀ ex pn) ->PT (X.comp scope N C s₀ H₀ ex pn) c tc)
   (he:∀C s₀ H₀ ex pn,V0 (X.comp scope N C s₀ H₀ ex pn) ->PE (X.comp scope N C s₀ H₀ ex pn) elt te) (hN:X.N.Nodup) (hi':X.N[i]?=some y) (hy:X.env.scope.names.lookup y=some .local)
   (hsw:swapsWith (.ListComp elt [⟨target,iter,[c],0⟩] scope pos) (some (.Name y py)) spos.line X.env=pure true:=by rfl)
   (hs:∀x,foldedSetIterable iter X.env x=pure x:=by intro _;rfl):PS X (.Assign [.Name y py] (.ListComp elt [⟨target,iter,[c],0⟩] scope pos) spos) (B7a (B4h N.length wi g tc te) (A4n i)):=by
 intro pins s σ H D I h
 rw[exec_Assign_Name_used _ _ _ _ hsw]
 refine wpAny_bind (wpAny_standAt (wpAny_bind ?_))
 show wpAny _ X.A (do let _<-comprehension (.ListComp elt [⟨target,iter,[c],0⟩] scope pos) scope X.env _ (newList []) false (eval iter X.env) (some (assign (.Name y py) X.env))) _ _ s
 refine wpAny_bind (wpAny_mono (wpAny_comprehension_use (Q:=fun _ s'=>SP X pins D .next s') rfl hs S.free S.kind S.loc (B2q S hd hi hex hg hc he I h (RR:=fun acc ce r s'=>match r with
     | .ok _=>wpAny (model X.prog X.w) X.A (assign (.Name y py) X.env acc) (fun _ s''=>∃m,s''.heap.Ns ce.locals m/\∀h',Heap.SameBut ce.locals s''.heap h' ->SP X pins D .next {s'' with heap:=h'}) X.xe s'
     | .error x=>∃m,s'.heap.Ns ce.locals m/\∀h',Heap.SameBut ce.locals s'.heap h' ->wpAny (model X.prog X.w) X.A (passOn "comprehension.variables-let-go" x ce) (fun _ s'=>SP X pins D .next s') X.xe {s' with heap:=h'}) ?_))
   (fun _ s' hq=>wpAny_pure (wpAny_pure hq)) fun _ _ e=>e)
 intro D' C s6 H5 mm I6 n6 f6 q
 refine wpAny_assign_Name (A4q (v:= .ref D') I6 hN hi' (.inl hy) rfl (fun s7 I7 st=>?_) (.inr hy))
 obtain⟨a,sb,ha⟩:=st
 have na:C≠a:=by
   rcases ha with rfl|ha
   . exact f6.2.1
   . exact(f6.2.2.2.2.1 y a ha).symm
 exact⟨mm,n6.sameBut sb na,fun h' sb'=>⟨_,_,B8b I7 f6 sb',q⟩⟩
theorem B4t{elt target iter:Expr}{scope:Scope}{pos:Pos}{N:List Str}{wi:TI}{g:TG}{te:TE}(S:CompScope N scope)(hd:V0 X)(hi:PIH X target iter wi)(hex:X.ex=[])
   (hg:∀C s₀ H₀ ex pn,V0 (X.comp scope N C s₀ H₀ ex pn) ->PG (X.comp scope N C s₀ H₀ ex pn) target g)
   (he:∀C s₀ H₀ ex pn,V0 (X.comp scope N C s₀ H₀ ex pn) ->PE (X.comp scope N C s₀ H₀ ex pn) elt te)
   (hs:∀x,foldedSetIterable iter X.env x=pure x:=by intro _;rfl):PE X (.ListComp elt [⟨target,iter,[],0⟩] scope pos) (B4b N.length wi g te):=by
 intro pins s σ H Q I h
 refine wpAny_ListComp S.free S.kind S.loc (A8t S hd hi hex hg he I h (RR:=fun acc ce r s'=>∃m,s'.heap.Ns ce.locals m/\∀h',Heap.SameBut ce.locals s'.heap h' ->match r with
   | .ok _=>EP X pins σ Q acc {s' with heap:=h'}
   | .error x=>wpAny (model X.prog X.w) X.A (passOn "comprehension.variables-let-go" x ce) (EP X pins σ Q) X.xe {s' with heap:=h'}) ?_) hs
 intro D C s6 H5 mm I6 n6 f6 q
 exact⟨mm,n6,fun h' sb=>⟨.ref D,H5,B8b I6 f6 sb,rfl,q⟩⟩
end
section
variable{X:Cx}{a b c:Expr}{ta tb tc:TE}{pos:Pos}
theorem J0:OpR X (binaryOp .Mult) (rI IntMulOk fun i j=> .int (i*j)):=opI fun _ _ _ _ _ _ _ hc q=>mul_int q hc
theorem G2:OpR X (binaryOp .FloorDiv) (rI (fun _ j=>0<j/\j.natAbs.log2<9000) fun i j=> .int (i/j)):=opI fun i j _ _ _ _ _ hc q=>by
 have h1:(0:Int)<j:=hc.1
 exact floordiv_int (by omega) (by rw[Int.fdiv_eq_ediv_of_nonneg i (by omega)];exact q) (.inl (PyProof.noPylong_of_log2 hc.2))
theorem Z0{i:Int}{k:Nat}(h:i.natAbs<2^k)(hk:0<k):i.natAbs.log2<k:=by
 by_cases z:i.natAbs=0
 . rw[z];simpa using hk
 . exact(Nat.log2_lt z).mpr h
theorem A3r{i:Int}(h:i.natAbs<2^1000):Builtin.Int.intBits i<=2^20:=by
 unfold Builtin.Int.intBits
 split
 . exact Nat.zero_le _
 . have:=Z0 h (by decide)
   have e:(2:Nat)^20=1048576:=by decide
   omega
theorem A7n{i j:Int}(h:i.natAbs<2^1000)(h':j.natAbs<2^1000):IntMulOk i j:=IntMulOk.of_bits (A3r h) (A3r h')
inductive TyE(K:Frag)(H:Hp):V ->Value ->Prop where
 |of {x:V} {t:Value} (h:TyOf K H x t):TyE K H x t
 |exc {a C t:Addr} {T:Value} {u:HO} (e:H a=some (.frz (Z6 (.ref C) t none T) u)) (k:ExcK K C):TyE K H (.ref a) (.ref C)
 |excD {a C t:Addr} {T:Value} {d:Addr} {u:HO} {fs:List (Str×V)} (e:H a=some (.frz (Z6 (.ref C) t (some d) T) u)) (hd:H d=some (.xd fs)) (k:ExcK K C):TyE K H (.ref a) (.ref C)
 |tupK {a:Addr} {o:Obj} (l:K.lookup a=some o) (c:o.cls= .type "tuple"):TyE K H (.ref a) (.type "tuple")
theorem A9f{pins:List (Addr×Obj)}{σ:St}{H:Hp}{s:Shared}{A:Around}{E:Value ->Shared ->Prop}{Q:Value ->Shared ->Prop}{c:Value}{b:Bool}{x:V}{u t:Value}(I:Inv X pins σ H s)(rx:RelV x u)(ty:TyE X.K H x t)
   (e:kitOne X.K t c=some b) (h:∀tk,Q (.bool b) {s with toks:=tk}):wpAny (model X.prog X.w) A (call (.builtin "isinstance") [u,c]) Q E s:=by
 cases ty with
 |of h'=>exact B1j I rx h' e h
 | exc ea k=>
   cases rx
   rename_i a C t0 T u0
   have o1:s.heap.get? a=some (Z6 (.ref C) t0 none T):=(I.hok a _ ea).1
   refine kia_one (H:=fun h=>PySem.W.InstAt h a (Z6 (.ref C) t0 none T) C none) ?_ I.kIn ⟨o1,rfl,rfl,trivial⟩ e (fun z=>nomatch z) h
   refine⟨fun M h _ J=>J.type,fun M h K _=>Y7 K k.cl,fun h tp dd its n sl K htp=>?_,fun K J q=>A0f k K J q⟩
   refine Bool.eq_false_iff.mpr fun q=>?_
   have e:C=tp:=Value.ref.inj (beq_iff_eq.mp q)
   subst e
   have z:=k.cl
   unfold clsIn at z
   split at z
   . rename_i ho
     have y:=(K _ _ ho).symm.trans htp
     cases y
   . cases z
 | tupK l c=>
   cases rx
   exact PySem.W.kia_one PySem.W.kitx_tuple I.kIn ⟨_,I.kIn _ _ l,c⟩ e (fun z=>nomatch z) h
 | excD ea hd k=>
   cases rx
   rename_i a C t0 T d u0 fs
   have o1:s.heap.get? a=some (Z6 (.ref C) t0 (some d) T):=(I.hok a _ ea).1
   obtain⟨mA,nA,_⟩:=(show∃mA,s.heap.Ns1 d mA/\∀f,RelO (fs.lookup f) (mA f) from I.hok d _ hd)
   obtain⟨od,o2,_⟩:=A5a nA
   refine kia_one (H:=fun h=>PySem.W.InstAt h a (Z6 (.ref C) t0 (some d) T) C (some od)) ?_ I.kIn ⟨o1,rfl,rfl,o2⟩ e (fun z=>nomatch z) h
   refine⟨fun M h _ J=>J.type,fun M h K _=>Y7 K k.cl,fun h tp dd its n sl K htp=>?_,fun K J q=>A0f k K J q⟩
   refine Bool.eq_false_iff.mpr fun q=>?_
   have e:C=tp:=Value.ref.inj (beq_iff_eq.mp q)
   subst e
   have z:=k.cl
   unfold clsIn at z
   split at z
   . rename_i ho
     have y:=(K _ _ ho).symm.trans htp
     cases y
   . cases z
noncomputable def B5v:V ->Option Value
 | .ty n=>some (.type n)
 | .ref a=>some (.ref a)
 |_=>none
theorem A7c:Y3 X (.builtin "isinstance") (fun xs H Q=>∃x c cv t b,xs=[x,c]/\B5v c=some cv/\TyE X.K H x t/\kitOne X.K t cv=some b/\Q (.bl b) H):=by
 intro pins s σ H xs us Q I r h
 obtain⟨x,c,cv,t,b,rfl,hc,ty,e,q⟩:=h
 obtain⟨u,v,rfl,ru,rv⟩:=Vals.two r
 have:v=cv:=by
   cases c<;>simp only[B5v] at hc<;>first|(cases hc;exact rv)|cases hc
 subst this
 exact A9f I ru ty e fun tk=>⟨.bl b,H,I.tok tk,rfl,q⟩
mutual
inductive RdD(K:Frag)(H:Hp):V ->PyData ->Prop where
 |non:RdD K H .non .none
 |bl (b:Bool):RdD K H (.bl b) (.bool b)
 |int (i:Int):RdD K H (.int i) (.int i)
 |str (x:Str):RdD K H (.str x) (.str x)
 |tup {a:Addr} {xs:List V} {ds:List PyData} (h:SqT K H a xs) (r:RdDs K H xs ds):RdD K H (.ref a) (.tuple ds)
 |lst {a:Addr} {xs:List V} {ds:List PyData} (h:SqL K H a xs) (r:RdDs K H xs ds):RdD K H (.ref a) (.list ds)
inductive RdDs(K:Frag)(H:Hp):List V ->List PyData ->Prop where
 |nil:RdDs K H [] []
 |cons {x:V} {xs:List V} {d:PyData} {ds:List PyData} (h:RdD K H x d) (r:RdDs K H xs ds):RdDs K H (x::xs) (d::ds)
end
mutual
theorem RdD.reads{pins:List (Addr×Obj)}{σ:St}{H:Hp}{s:Shared}(I:Inv X pins σ H s):∀{x:V} {d:PyData} {u:Value},RdD X.K H x d ->RelV x u ->∃as,Reads s.heap u d as
 |_,_,_,.non,r=>by cases r;exact⟨_,.none⟩
 |_,_,_,.bl b,r=>by cases r;exact⟨_,.bool b⟩
 |_,_,_,.int i,r=>by obtain⟨t,rfl⟩:=r;exact⟨_,.int i t⟩
 |_,_,_,.str x,r=>by obtain⟨t,rfl⟩:=r;exact⟨_,.str x t⟩
 | _,_,_,.tup h q,r=>by
   cases r
   obtain⟨its,rv,⟨o,e,c,n,d⟩,_⟩:=I.tuple h
   obtain⟨as,z⟩:=RdDs.reads I q rv
   exact⟨_,reads_tuple_at e c d (by simpa using z)⟩
 | _,_,_,.lst h q,r=>by
   cases r
   obtain⟨its,rv,p,_⟩:=I.list h
   obtain⟨o,e,c,n,d⟩:=p.isList
   obtain⟨as,z⟩:=RdDs.reads I q rv
   exact⟨_,reads_list_at e c d (by simpa using z)⟩
theorem RdDs.reads{pins:List (Addr×Obj)}{σ:St}{H:Hp}{s:Shared}(I:Inv X pins σ H s):∀{xs:List V} {ds:List PyData} {us:List Value},RdDs X.K H xs ds ->Vals xs us ->∃as,ReadsAll s.heap us ds as
 |_,_,_,.nil,r=>by cases r;exact⟨_,.nil⟩
 | _,_,_,.cons h q,r=>by
   cases r with
   | cons r1 r2=>
     obtain⟨as,z⟩:=RdD.reads I h r1
     obtain⟨bs,y⟩:=RdDs.reads I q r2
     exact⟨_,.cons z y⟩
end
noncomputable def B8z (K:Frag) (n:Bool):R2:=fun x y H Q=>∃d e,RdD K H x d/\RdD K H y e/\SeqAt.shaped d=true/\SeqAt.shaped e=true/\Q (.bl (if n then !PyData.eqv d e else PyData.eqv d e)) H
theorem B8w(hu:X.A.units+64<cLine):OpR X (compareOp .Eq) (B8z X.K false):=by
 intro pins s σ H x y v u Q I rx ry q
 obtain⟨d,e,hx,hy,sd,se,q⟩:=q
 obtain⟨as,z⟩:=hx.reads I rx
 obtain⟨bs,z'⟩:=hy.reads I ry
 exact eq_dataH z z' sd se hu ⟨.bl (PyData.eqv d e),H,I,rfl,q⟩
theorem B9g(hu:X.A.units+64<cLine):OpR X (compareOp .NotEq) (B8z X.K true):=by
 intro pins s σ H x y v u Q I rx ry q
 obtain⟨d,e,hx,hy,sd,se,q⟩:=q
 obtain⟨as,z⟩:=hx.reads I rx
 obtain⟨bs,z'⟩:=hy.reads I ry
 exact ne_dataH z z' sd se hu ⟨.bl (!PyData.eqv d e),H,I,rfl,q⟩
inductive FPart(X:Cx):Expr ->TE ->Prop where
 |lit {x:Str} {j:Nat} {pos:Pos}:FPart X (.Constant (.str x) j pos) (tC (.str x))
 |int {v:Expr} {tv:TE} {pos:Pos} (h:PE X v tv):FPart X (.FormattedValue v (-1) none pos) (fun σ H Q=>tv σ H fun y H1=>∃i,y= .int i/\i.natAbs.log2<1920/\Q (.str (toString i)) H1)
theorem FPart.pe{e:Expr}{t:TE}(h:FPart X e t):PE X e t:=by
 cases h with
 |lit=>exact B1
 | int h=>
   intro pins s σ H Q I q
   refine FormattedValue_plain (thn (h pins s σ H _ I q) fun u s1 hh_=>?_)
   obtain⟨y,H1,I1,r,i,e,l,q⟩:=hh_
   subst e
   obtain⟨t,rfl⟩:=r
   exact formatField_int_small l ⟨.str (toString i),H1,I1.tok _,⟨_,rfl⟩,q⟩
inductive FParts(X:Cx):List Expr ->(Str ->TE) ->Prop where
 |nil:FParts X [] (fun out _ H Q=>out.length<=sizeLine/\Q (.str out) H)
 |cons {e:Expr} {es:List Expr} {t:TE} {r:Str ->TE} (h:FPart X e t) (hr:FParts X es r):FParts X (e::es) (fun out σ H Q=>t σ H fun x H1=>∃y,x= .str y/\(out++y).length<=sizeLine/\r (out++y) σ H1 Q)
theorem FParts.run{es:List Expr}{t:Str ->TE}(h:FParts X es t):∀(out:Str) (pins:List (Addr×Obj)) (s:Shared) (σ:St) (H:Hp) (Q:VK),Inv X pins σ H s ->t out σ H Q ->
   wpAny (model X.prog X.w) X.A (joinParts out (evalEach es X.env)) (EP X pins σ Q) X.xe s:=by
 induction h with
 | nil=>
   intro out pins s σ H Q I q
   exact joinParts_nil ⟨.str out,H,I.tok _,⟨_,rfl⟩,q.2⟩ q.1
 | @cons e es t r h hr ih=>
   intro out pins s σ H Q I q
   show wpAny _ _ (joinParts out (eval e X.env::evalEach es X.env)) _ _ _
   refine joinParts_cons (thn (h.pe pins s σ H _ I q) fun u s1 hh_=>?_)
   obtain⟨x,H1,I1,rx,y,ey,z,q⟩:=hh_
   subst ey
   obtain⟨t',rfl⟩:=rx
   exact⟨z,ih _ pins s1 σ H1 Q I1 q⟩
theorem B7d{e1 e2:Expr}{es:List Expr}{t:Str ->TE}{pos:Pos}(h:FParts X (e1::e2::es) t):PE X (.JoinedStr (e1::e2::es) pos) (t Str.empty):=by
 intro pins s σ H Q I q
 exact JoinedStr_many (h.run _ pins s σ H Q I q)
end
section
variable{P:Program}{w:World}{K:Frag}{mg:Str ->Option Value}{base:Heap}
end
section
variable{X:Cx}{k:Nat}{f:Addr}{fd:FuncData}{ps:List Str}{sp:Sp}{x:Str}{p pos:Pos}{e:Expr}{es:List Expr}{t:TA}
end
theorem Inv.big{X:Cx}{pins:List (Addr×Obj)}{σ:St}{H:Hp}{s:Shared}(I:Inv X pins σ H s):sysModules<s.heap.objs.size:=by
 have h:mainGlobals<s.heap.objs.size:=(I.mod.glob.keeps I.bk).lt
 exact Nat.lt_trans (by decide) h
theorem B3b{P:Program}{w:World}{H:Hp}(h:Heap)(hb:sysModules<h.objs.size):ObjOk P w H (h.push {cls:= .type "dict",data:= .dict #[]}) h.objs.size (.dK []):=
 ⟨Nat.zero_le _,beq_eq_false_iff_ne.mpr (Ne.symm (Nat.ne_of_lt hb)),[],.nil,Heap.DictOf.new h⟩
noncomputable def B9z:TE:=fun _ H Q=>∀p,H p=none ->Q (.ref p) (upd H p (.dK []))
theorem B4r{X:Cx}{pos:Pos}:PE X (.Dict [] [] pos) B9z:=fun pins s σ H Q I h=>
 wpAny_Dict_empty ⟨.ref s.heap.objs.size,_,I.laid (a:=s.heap.objs.size) (o:= .dK []) (t':=s.toks) (fun _ _ q=>Heap.get?_push_of_some _ q) (Nat.le_refl _) (B3b s.heap I.big),rfl,h _ (I.hok.fresh (Nat.le_refl _))⟩
noncomputable abbrev EKF:EK:=fun _ _ _ _=>False
theorem B3e{X:Cx}:G6 X EKF:=fun _ _ _ _ _ _ _ _ _ _ h=>h.elim
structure Def(K:Frag)(mg:Str ->Option Value)(x:Str)(ps:List Str)(st:Stmt)(f:Addr)(fd:FuncData):Prop where
 F:Fun K x x st f fd
 g:mg x=some (.ref f)
 b:Binds K fd ps []
theorem A3z{K:Frag}{h:Heap}{mg:Str ->Option Value}{x:Str}{ps:List Str}{st:Stmt}{f:Addr}{oc:Value}{od an:Option Addr}{osl:Array (Option Value)}{kV doc pm cdv ct:Value}(X:K.In h)(G:h.Ns mainGlobals mg)
   (a:nsIn K mainGlobals x=some (some (.ref f))) (l:K.lookup f=some ⟨oc,od,.func (fnOf x x (D7 st) (D5 st) (A6 st) .none kV doc pm an cdv ct),osl⟩) (c:codeIn K cdv x=true) (k:keepIn K (.ref f)=true)
   (hb:∀(kV doc pm:Value) (an:Option Addr) (cdv ct:Value) (us:List Value),us.length=ps.length ->bindArgs (fnOf x x (D7 st) (D5 st) (A6 st) .none kV doc pm an cdv ct) ⟨us,[]⟩=pure (ps.zip us)):
   Def K mg x ps st f (fnOf x x (D7 st) (D5 st) (A6 st) .none kV doc pm an cdv ct):=
 ⟨A7v (st:=st) l c k,mg_of X G a,(A7v (st:=st) l c k).binds hb⟩
theorem A9z{c A B:Prop} [Decidable c] (h:¬c) (b:B):if decide c=true then A else B:=by rw[decide_eq_false h];exact U6 b
theorem A7d{c A B:Prop} [Decidable c] (h:c) (a:A):if decide c=true then A else B:=by rw[decide_eq_true h];exact Z9 a
theorem U4{c A B:Prop} [Decidable c] (a:c ->A) (b:¬c ->B):if decide c=true then A else B:=by
 by_cases h:c
 . exact A7d h (a h)
 . exact A9z h (b h)
noncomputable def C1c (t:TS):TS:=fun D σ H=>∃J:St ->Hp ->Prop,t {D with nx:=J} σ H/\∀σ' H',J σ' H' ->D.nx σ' H'
theorem A5{X:Cx}{st:Stmt}{t:TS}(h:PS X st t):PS X st (C1c t):=by
 intro pins s σ H D I q
 obtain⟨J,q,k⟩:=q
 refine thn (h pins s σ H _ I q) fun f s' z=>?_
 cases f with
 |next=>obtain⟨σ',H',I',y⟩:=z;exact⟨σ',H',I',k _ _ y⟩
 |brk=>exact z
 |cont=>exact z
 |ret u=>exact z
theorem ixs{xs:List Int}{i:Int}(h0:0<=i)(h1:i<xs.length):∃v,v∈xs/\atI (xs.map V.int) i=some (.int v):=by
 obtain⟨j,rfl⟩:=Int.eq_ofNat_of_zero_le h0
 have hj:j<xs.length:=by omega
 exact⟨xs[j],List.getElem_mem hj,G0 (by simp[hj])⟩
theorem ixv{xs:List V}{i:Int}(h0:0<=i)(h1:i<xs.length):∃v,v∈xs/\atI xs i=some v:=by
 obtain⟨j,rfl⟩:=Int.eq_ofNat_of_zero_le h0
 have hj:j<xs.length:=by omega
 exact⟨xs[j],List.getElem_mem hj,G0 (by simp[hj])⟩
theorem Same.upd{H:Hp}{p:Addr}{o:HO}(h:H p=none):Same H (L2.upd H p o):=fun b u e=>by rw[C8 (D9 e h)];exact e
theorem A2{n:Nat}(h:n<=1000):n<=sizeLine:=Nat.le_of_lt (U8 h)
section
variable{X:Cx}{k j:Nat}{f:Addr}{fd:FuncData}{ps:List Str}{sp:Sp}{EH:EK}{x:Str}{st:Stmt}{p pos:Pos}{e:Expr}{es:List Expr}{t:TA}
theorem B8(D:Def X.K X.mg x ps st f fd)(F:FnOk X.prog X.w X.K X.mg X.base (CX1 X.prog X.w) j f fd ps sp)(hr:Room k X.A)(hx:G6 X EH)(ha:PA X (e::es) t)(hj:j<=k:=by decide)(hg:Gl X x:=by rfl)(hex:X.ex=[]:=by rfl)(hdb:(x==("__debug__":Str))=false:=by decide)
   (he:starEach (e::es) X.env=(false,eval e X.env)::starEach es X.env:=by rfl) (hpl:(backTo pos (starEach es X.env)).any (·.1)=false:=by rfl):PE X (.Call (.Name x p) (e::es) [] pos) (A5w sp [] EH t):=
 B4k (F.mono hj) hr hg D.g D.F.kp D.b .nil hx ha hex hdb he hpl
theorem A8u(D:Def X.K X.mg x ps st f fd)(F:FnOk X.prog X.w X.K X.mg X.base (CX1 X.prog X.w) j f fd ps sp)(hr:Room k X.A)(hx:G6 X EH)(hj:j<=k:=by decide)(hg:Gl X x:=by rfl)(hex:X.ex=[]:=by rfl)(hdb:(x==("__debug__":Str))=false:=by decide):
   PE X (.Call (.Name x p) [] [] pos) (A5w sp [] EH B3n):=
 B1x (F.mono hj) hr hg D.g D.F.kp D.b .nil hx hex hdb
theorem pty{n:Str}{T:String}(hm:X.mg n=none)(hv:bootBuiltins n=some (.type T))(hg:Gl X n:=by rfl)(hn:n≠"__name__":=by decide)(hdb:(n==("__debug__":Str))=false:=by decide):PE X (.Name n pos) (tC (.ty T)):=B5x hg hm hv rfl hn hdb
theorem B1p{n:Str}{C:Addr}(hm:X.mg n=some (.ref C))(hg:Gl X n:=by rfl)(hdb:(n==("__debug__":Str))=false:=by decide):PE X (.Name n pos) (tC (.ref C)):=B7m hg hm rfl hdb
theorem A1g{a b:Expr}{ta tb:TE}(hm:X.mg "isinstance"=none)(ha:PE X a ta)(hb:PE X b tb)(hg:Gl X "isinstance":=by rfl)
   (h1:starEach [a,b] X.env=(false,eval a X.env)::starEach [b] X.env:=by rfl) (h2:starEach [b] X.env=(false,eval b X.env)::starEach [] X.env:=by rfl) (h3:(backTo pos (starEach [b] X.env)).any (·.1)=false:=by rfl):
   PE X (.Call (.Name "isinstance" p) [a,b] [] pos) (tCB (fun xs H Q=>∃x c cv t b,xs=[x,c]/\B5v c=some cv/\TyE X.K H x t/\kitOne X.K t cv=some b/\Q (.bl b) H) (A6m ta (A6m tb B3n))):=
 D3 A7c hg hm boot_isinstance (A0 ha (A0 hb A4 h2) h1) (he:=h1) (hpl:=h3)
theorem B8c{K:Frag}{a b:Expr}{ta tb:TE}(hK:X.K=K)(hm:X.mg "isinstance"=none)(ha:PE X a ta)(hb:PE X b tb)(hg:Gl X "isinstance":=by rfl)
   (h1:starEach [a,b] X.env=(false,eval a X.env)::starEach [b] X.env:=by rfl) (h2:starEach [b] X.env=(false,eval b X.env)::starEach [] X.env:=by rfl) (h3:(backTo pos (starEach [b] X.env)).any (·.1)=false:=by rfl):
   PE X (.Call (.Name "isinstance" p) [a,b] [] pos) (tCB (fun xs H Q=>∃x c cv t b,xs=[x,c]/\B5v c=some cv/\TyE K H x t/\kitOne K t cv=some b/\Q (.bl b) H) (A6m ta (A6m tb B3n))):=by
 subst hK
 exact A1g hm ha hb hg h1 h2 h3
end
section
variable{X:Cx}{k j:Nat}{f:Addr}{fd:FuncData}{ps:List Str}{sp:Sp}{x:Str}{st:Stmt}{p pos:Pos}{e:Expr}{es:List Expr}{t:TA}
end
section
variable{X:Cx}{k j:Nat}{f C:Addr}{fd:FuncData}{ps:List Str}{sp:Sp}{dvs:List V}{ds:List Value}{EH:EK}{x m:Str}{p pos apos:Pos}{e o:Expr}{es:List Expr}{ta:TE}{t:TA}
end
theorem A2w{n:Nat}(h:n<=sizeLine):Builtin.Str.tooLong n=false:=by
 unfold Builtin.Str.tooLong
 exact decide_eq_false (by omega)
section
variable{X:Cx}
noncomputable def B9v:V ->List V ->Hp ->VK ->Prop:=fun x vs H Q=>∃z,x= .str z/\vs=[]/\(Txt.upper z).length<=sizeLine/\Q (.str (Txt.upper z)) H
theorem B3g:MtR X "str.upper" B9v:=by
 intro pins s σ H x vs v us Q I rx rv h
 obtain⟨z,rfl,rfl,hz,q⟩:=h
 obtain⟨t,rfl⟩:=(show∃t,v=Value.str z t from rx)
 rw[rv.zero]
 exact SC.upper (A2w hz) ⟨.str _,H,I.tok _,⟨_,rfl⟩,q⟩
theorem B0k{v:Value}{o:Option Int}(h:IsPart v o):∃p:Option (Int×Tok),v=partValue p/\p.map (·.1)=o:=by
 cases h with
 |none=>exact⟨none,rfl,rfl⟩
 |int i t=>exact⟨some (i,t),rfl,rfl⟩
noncomputable def A2s (x:Str) (lo hi:Option Int):Str:=if((Builtin.Str.strSliceIndices lo hi 1 x.length).length==x.length)=true then x else⟨((Builtin.Str.strSliceIndices lo hi 1 x.length).filterMap (x.cps[·]?)).toArray⟩
noncomputable def C3g:V ->Option Int ->Option Int ->Hp ->VK ->Prop:=fun x lo hi H Q=>∃z,x= .str z/\(A2s z lo hi).length<=sizeLine/\Q (.str (A2s z lo hi)) H
theorem A0v:SlR X C3g:=by
 intro pins s σ H x v vl vu lo hi sl Q I rx hs pl pu h
 obtain⟨z,rfl,hz,q⟩:=h
 obtain⟨t,rfl⟩:=(show∃t,v=Value.str z t from rx)
 obtain⟨l,rfl,rfl⟩:=B0k pl
 obtain⟨u,rfl,rfl⟩:=B0k pu
 refine⟨"str",_,F.slot_str_getitem.lookup,typeIs_str _ _ _,wpAny_getItem_str_slice (l:=l) (u:=u) (st:=none) hs rfl ?_⟩
 exact post_val_or_str ⟨hz,fun t' k=>⟨.str _,H,I.tok _,⟨_,rfl⟩,q⟩⟩
end
section
variable{P:Program}{w:World}{K:Frag}{mg:Str ->Option Value}{base:Heap}
end
section
variable{X:Cx}{k j:Nat}{f C:Addr}{fd:FuncData}{ps ks:List Str}{sp:Sp}{EH:EK}{x m:Str}{p pos apos:Pos}{e o:Expr}{es:List Expr}{kws:List Keyword}{ta:TE}{t tk:TA}{g:List Value ->List Value ->List Value}{gV:List V ->List V ->List V}
end
section
variable{X:Cx}{K:Frag}{e:Expr}{f:Str}{pos:Pos}{ta:TE}
theorem B3z(h:X.K=K):IxR X (C1g K):=by subst h;exact A1q
theorem B6t(h:X.K=K):IxR X (C1f K):=by subst h;exact A0w
end
end L2
namespace TR
open PySem L2 PySem.W PyProof.Rows
structure Own(mg:Str ->Option Value):Prop where
 isi:mg "isinstance"=none
 int_:mg "int"=none
 bool_:mg "bool"=none
 str_:mg "str"=none
 list_:mg "list"=none
 tuple_:mg "tuple"=none
 dict_:mg "dict"=none
 len_:mg "len"=none
 range_:mg "range"=none
 min_:mg "min"=none
 max_:mg "max"=none
 abs_:mg "abs"=none
 any_:mg "any"=none
 all_:mg "all"=none
 sum_:mg "sum"=none
 repr_:mg "repr"=none
 enumerate_:mg "enumerate"=none
 reversed_:mg "reversed"=none
 zip_:mg "zip"=none
 sorted_:mg "sorted"=none
 divmod_:mg "divmod"=none
 set_:mg "set"=none
 ValueError_:mg "ValueError"=none
structure Kit(K:Frag):Prop where
 int_int:kitOne K (.type "int") (.type "int")=some true
 int_bool:kitOne K (.type "int") (.type "bool")=some false
 int_str:kitOne K (.type "int") (.type "str")=some false
 int_list:kitOne K (.type "int") (.type "list")=some false
 int_tuple:kitOne K (.type "int") (.type "tuple")=some false
 int_dict:kitOne K (.type "int") (.type "dict")=some false
 bool_int:kitOne K (.type "bool") (.type "int")=some true
 bool_bool:kitOne K (.type "bool") (.type "bool")=some true
 bool_str:kitOne K (.type "bool") (.type "str")=some false
 bool_list:kitOne K (.type "bool") (.type "list")=some false
 bool_tuple:kitOne K (.type "bool") (.type "tuple")=some false
 bool_dict:kitOne K (.type "bool") (.type "dict")=some false
 str_int:kitOne K (.type "str") (.type "int")=some false
 str_bool:kitOne K (.type "str") (.type "bool")=some false
 str_str:kitOne K (.type "str") (.type "str")=some true
 str_list:kitOne K (.type "str") (.type "list")=some false
 str_tuple:kitOne K (.type "str") (.type "tuple")=some false
 str_dict:kitOne K (.type "str") (.type "dict")=some false
 list_int:kitOne K (.type "list") (.type "int")=some false
 list_bool:kitOne K (.type "list") (.type "bool")=some false
 list_str:kitOne K (.type "list") (.type "str")=some false
 list_list:kitOne K (.type "list") (.type "list")=some true
 list_tuple:kitOne K (.type "list") (.type "tuple")=some false
 list_dict:kitOne K (.type "list") (.type "dict")=some false
 tuple_int:kitOne K (.type "tuple") (.type "int")=some false
 tuple_bool:kitOne K (.type "tuple") (.type "bool")=some false
 tuple_str:kitOne K (.type "tuple") (.type "str")=some false
 tuple_list:kitOne K (.type "tuple") (.type "list")=some false
 tuple_tuple:kitOne K (.type "tuple") (.type "tuple")=some true
 tuple_dict:kitOne K (.type "tuple") (.type "dict")=some false
 dict_int:kitOne K (.type "dict") (.type "int")=some false
 dict_bool:kitOne K (.type "dict") (.type "bool")=some false
 dict_str:kitOne K (.type "dict") (.type "str")=some false
 dict_list:kitOne K (.type "dict") (.type "list")=some false
 dict_tuple:kitOne K (.type "dict") (.type "tuple")=some false
 dict_dict:kitOne K (.type "dict") (.type "dict")=some true
 NoneType_int:kitOne K (.type "NoneType") (.type "int")=some false
 NoneType_bool:kitOne K (.type "NoneType") (.type "bool")=some false
 NoneType_str:kitOne K (.type "NoneType") (.type "str")=some false
 NoneType_list:kitOne K (.type "NoneType") (.type "list")=some false
 NoneType_tuple:kitOne K (.type "NoneType") (.type "tuple")=some false
 NoneType_dict:kitOne K (.type "NoneType") (.type "dict")=some false
theorem scK{N P:List Str}{sc:Scope}(a:sc.kind= .function:=by rfl)(b:sc.isCoroutine=false:=by rfl)(c:sc.isGenerator=false:=by rfl)(d:N.Nodup:=by decide+kernel)(e:N.take P.length=P:=by rfl)(f:∀x∈P,sc.names.lookup x=some .local\/sc.names.lookup x=some .cell:=by decide+kernel)(g:∀y∈sc.names,y.2≠ .free:=by decide+kernel):FnScope N P sc:=⟨a,b,c,d,e,f,g⟩
theorem A6j{K:Frag}{H:Hp}(i:Int):TyE K H (.int i) (.type "int"):= .of (.int i)
theorem C3h{K:Frag}{H:Hp}(b:Bool):TyE K H (.bl b) (.type "bool"):= .of (.bl b)
theorem B0v{K:Frag}{H:Hp}(z:Str):TyE K H (.str z) (.type "str"):= .of (.str z)
theorem C1z{K:Frag}{H:Hp}:TyE K H .non (.type "NoneType"):= .of .non
theorem C1s{K:Frag}{H:Hp}{a:Addr}{xs:List V}(h:H a=some (.lst xs)):TyE K H (.ref a) (.type "list"):= .of (.lst h)
theorem B3u{K:Frag}{H:Hp}{a:Addr}{xs:List V}(h:H a=some (.tup xs)):TyE K H (.ref a) (.type "tuple"):= .of (.tup h)
theorem C2c{K:Frag}{H:Hp}{a:Addr}{xs:List (Key×V)}(h:H a=some (.dK xs)):TyE K H (.ref a) (.type "dict"):= .of (.dK h)
noncomputable def A2m (lo hi:Int) (v:V):Prop:=∃i,v= .int i/\lo<=i/\i<=hi
noncomputable def B1q (K:Frag) (H:Hp) (lo hi:Int) (v:V):Prop:=∃t b1 b2,TyE K H v t/\kitOne K t (.type "int")=some b1/\kitOne K t (.type "bool")=some b2/\((b1&& !b2)=false\/∃i,v= .int i/\(i<lo\/hi<i))
section
variable{K:Frag}{H:Hp}{lo hi:Int}
end
structure Fits(K:Frag)(C C1 C2 C3 C4 C5:Addr)(b1 b2 b3 b4 b5:Bool):Prop where
 k:ExcK K C
 h1:kitOne K (.ref C) (.ref C1)=some b1
 h2:kitOne K (.ref C) (.ref C2)=some b2
 h3:kitOne K (.ref C) (.ref C3)=some b3
 h4:kitOne K (.ref C) (.ref C4)=some b4
 h5:kitOne K (.ref C) (.ref C5)=some b5
 hv:kitOne K (.ref C) (.type "ValueError")=some true
end TR
namespace L2
open PySem PySem.Spec PyProof.Rows
section
variable{κ:Type} [DecidableEq κ]
end
section
variable{P:Program}{w:World}{H:Hp}{h:Heap}{a:Addr}
end
section
variable{X:Cx}{pins:List (Addr×Obj)}{σ:St}{H:Hp}{s:Shared}{a:Addr}{y v:V}{u r:Value}{o:Option V}{A:Around}{E:Value ->Shared ->Prop}
end
section
variable{X:Cx}{pins:List (Addr×Obj)}{σ:St}{H:Hp}{s:Shared}{a:Addr}{kvs:List (Key×V)}{k:Key}{u:Value}{A:Around}{E:Value ->Shared ->Prop}
end
section
variable{X:Cx}{o i e value:Expr}{pos pos' tpos:Pos}{td ty tv:TE}
end
section
variable{X:Cx}{pos:Pos}
end
end L2
namespace L2
open PySem PySem.Spec PyProof.Rows PySem.W
section
variable{X:Cx}{N F:List Str}{js:List Nat}{scope:Scope}
end
end L2
namespace L2
open PySem
section
variable{prog:Program}{w:World}{A:Around}{E:Value ->Shared ->Prop}{h:Heap}{g:Array GenState}{d:Drawn}{t:Nat}{os:OsState}
variable{nm q:Str}{C N:Addr}{bs bm bmB:List Value}{hdct:Bool}{sn:List Str}{sub:List Value}{ab:Bool}{col:Option Bool}{dd:Option Addr}{k0 k1 k2 k3 k5:Option Value}{B newId initId:String}
end
section
variable{M:Model}{prog:Program}{w:World}{A:Around}{E:Value ->Shared ->Prop}{s:Shared}{env:Env}
variable{nm q:Str}{C N:Addr}{bs bm bmB:List Value}{hdct:Bool}{sn:List Str}{sub:List Value}{ab:Bool}{col:Option Bool}{dd:Option Addr}{k0 k1 k2 k3 k5:Option Value}{B newId initId:String}
end
end L2
namespace L2
open PySem PySem.Spec PyProof.Rows PySem.W
section
variable{prog:Program}{w:World}{A:Around}{s:Shared}{K:Frag}{C e fI:Addr}{t:Addr}{R:Result ->Shared ->Prop}{name:Str}{tk:Tok}{v:Value}
end
section
variable{X:Cx}{pins:List (Addr×Obj)}{σ:St}{H:Hp}{s:Shared}
end
section
variable{X:Cx}{o value:Expr}{f:Str}{pos pos':Pos}{ta tv:TE}{C fI:Addr}
end
section
variable{X:Cx}{x f:Str}{p cpos pos:Pos}{e:Expr}{t:TA}{C fI:Addr}{fdI:FuncData}{ps:List Str}{EH:EK}{j k:Nat}
end
section
variable{X:Cx}{e:Expr}{f:Str}{pos:Pos}{ta:TE}
end
noncomputable def U3 (z:Str) (n:Int):Str:=if n<1 then Str.empty else if(n==1||z.length==0)=true then z else⟨(List.replicate n.toNat z.cps).foldl (· ++ ·) #[]⟩
noncomputable def C0b:R2:=fun x y H Q=>∃z n,x= .str z/\y= .int n/\ -(2^63)<=n/\n<2^63/\z.length*n.toNat<=sizeLine/\Q (.str (U3 z n)) H
theorem A4m(z:Array Nat):∀(k:Nat) (acc:Array Nat),((List.replicate k z).foldl (· ++ ·) acc).toList=acc.toList++(List.replicate k z.toList).flatten
 |0,acc=>by simp
 | k+1,acc=>by
   rw[List.replicate_succ,List.foldl_cons,A4m z k,Array.toList_append,List.replicate_succ,List.flatten_cons,List.append_assoc]
theorem V8(z:Str):z.cps.toList.length=z.length:=Array.length_toList
theorem A2f(z:Str)(n:Int):(U3 z n).cps.toList=(List.replicate n.toNat z.cps.toList).flatten:=by
 unfold U3
 split
 . have:n.toNat=0:=by omega
   rw[this];rfl
 . split
   . rename_i h1 h2
     rcases Bool.or_eq_true _ _|>.mp h2 with h|h
     . have:n=1:=by simpa using h
       subst this
       simp
     . have e:z.length=0:=by simpa using h
       have e2:z.cps.toList=[]:=List.eq_nil_of_length_eq_zero (by rw[V8];exact e)
       rw[e2]
       have:∀k:Nat,(List.replicate k ([]:List Nat)).flatten=[]:=fun k=>by simp
       rw[this]
   . show((List.replicate n.toNat z.cps).foldl (· ++ ·) #[]).toList=_
     rw[A4m]
     rfl
theorem A3q(z:Str)(n:Int):(U3 z n).length=n.toNat*z.length:=by
 rw[<-V8,A2f,B7t,V8]
section
variable{X:Cx}
theorem V3:OpR X (binaryOp .Mult) C0b:=by
 intro pins s σ H x y v u Q I rx ry h
 obtain⟨z,n,rfl,rfl,h1,h2,hz,q⟩:=h
 obtain⟨t,rfl⟩:=rx
 obtain⟨t',rfl⟩:=ry
 have lo:¬n< -(2^63:Int):=by omega
 have hi:¬n>=(2^63:Int):=by omega
 have hl:=A3q z n
 have hs:(U3 z n).length<=sizeLine:=by rw[hl,Nat.mul_comm];exact hz
 refine PySem.P.mul_str (by rw[decide_eq_false lo,decide_eq_false hi];rfl) (fun n1 n2=>?_) (fun n1 n2=>A2w hz) ?_
 . intro g
   have p:0<n:=by omega
   have e:((z.length*n.toNat:Nat):Int)=(z.length:Int)*n:=by rw[Int.natCast_mul,Int.toNat_of_nonneg (by omega)]
   have c:((z.length*n.toNat:Nat):Int)<=(sizeLine:Nat):=Int.ofNat_le.mpr hz
   have k:(sizeLine:Nat)<=2^63-1:=by decide
   have k':((sizeLine:Nat):Int)<=(2^63-1:Int):=by
     have:=Int.ofNat_le.mpr k
     exact this
   have:(z.length:Int)<=(2^63-1)/n:=(Int.le_ediv_iff_mul_le p).mpr (by omega)
   omega
 . unfold U3 at q hs
   split
   . rw[if_pos (by assumption)] at q
     exact⟨by decide,.str _,H,I.tok _,⟨_,rfl⟩,q⟩
   . rw[if_neg (by assumption)] at q hs
     split
     . rw[if_pos (by assumption)] at q
       exact⟨.str _,H,I,⟨_,rfl⟩,q⟩
     . rw[if_neg (by assumption)] at q hs
       exact⟨hs,.str _,H,I.tok _,⟨_,rfl⟩,q⟩
theorem Y0:Y3 X (.type "int") (fun xs H Q=>∃z n,xs=[.str z]/\PySem.intText? z=some n/\z.length<=640/\Q (.int n) H):=by
 intro pins s σ H xs us Q I r h
 obtain⟨z,n,rfl,h1,h2,q⟩:=h
 obtain⟨u,rfl,t,rfl⟩:=A2k r
 exact KIN.call_text h1 h2 ⟨.int n,H,I.tok _,⟨_,rfl⟩,q⟩
end
section
variable{X:Cx}
theorem B4c(hc:X.A.handled=none):Y3 X (.builtin "all") (fun xs H Q=>∃(l:Addr) (bs:List Bool),xs=[.ref l]/\SqL X.K H l (bs.map V.bl)/\Q (.bl (bs.all id)) H):=by
 intro pins s σ H xs us Q I r h
 obtain⟨l,bs,rfl,hl,q⟩:=h
 obtain⟨u,rfl,ru⟩:=Vals.one r
 cases ru
 obtain⟨its,rv,p,hz⟩:=I.list hl
 obtain⟨o,e,_⟩:=id p.isList
 have hlt:l<s.heap.objs.size:=Heap.lt_size e
 have hlen:its.length=bs.length:=by rw[<-rv.length,List.length_map]
 refine call_all_walk (wpAny_pyIter_list p.isList ?_)
 refine⟨s.heap.objs.size,[s.heap.objs.size,l],[s.heap.objs.size],its.toArray.size,_,_,fun i=>(bs[i]?).getD true,rfl,Walks.list (A:=X.A.in1) hc _ l (Nat.ne_of_lt hlt) its.toArray,⟨⟨_,Heap.get?_push_size _ rfl,rfl,rfl⟩,p.isList.push _⟩,fun i v s' Q' E' hP hQ=>?_,fun h' tk hk=>?_⟩
 . have hP:its[i]?=some v:=by simpa using hP
   have hi:i<bs.length:=by rw[<-hlen];exact(List.getElem?_eq_some_iff.mp hP).1
   obtain⟨u',hu',ru'⟩:=rv.get (i:=i) (x:=V.bl bs[i]) (by simp[hi])
   rw[hP] at hu'
   cases hu'
   cases ru'
   have z:(bs[i]?).getD true=bs[i]:=by simp[hi]
   dsimp only at hQ
   rw[z] at hQ
   exact wpAny_truthy_bool hQ
 . have z:((List.range its.toArray.size).all fun i=>(bs[i]?).getD true)=bs.all id:=by
     rw[List.size_toArray,hlen]
     exact LSm.range_all bs
   rw[z]
   exact⟨.bl (bs.all id),H,I.kept fun b x e=>hk b x (fun hm=>by rw[List.mem_singleton.mp hm] at e;exact Nat.lt_irrefl _ (Heap.lt_size e)) (Heap.get?_push_of_some _ e),rfl,q⟩
end
section
variable{X:Cx}{a b:Expr}{rest:List Expr}{pos:Pos}{ta tb:TE}
end
section
variable{X:Cx}{j k:Nat}{f C:Addr}{fd:FuncData}{ps:List Str}{sp:Sp}{dvs:List V}{ds:List Value}{x m:Str}{p pos apos:Pos}{e o:Expr}{es:List Expr}{ta:TE}{t:TA}{st:Stmt}
end
section
variable{X:Cx}{N F:List Str}{js:List Nat}{scope:Scope}
end
section
variable{X:Cx}{pins:List (Addr×Obj)}{σ:St}{H:Hp}{s:Shared}{h':Heap}
end
section
variable{X:Cx}{es:List Expr}{k:Nat}{tp:Pos}
end
noncomputable def C1w (D:Addr) (H H':Hp):Prop:=∀b o,H b=some o ->b≠D ->H' b=some o
theorem B0z{J:It}{g:TG}{te:TE}{σ0:St}{H1:Hp}{QD:Addr ->Hp ->Prop}{n:Nat}(R:Nat ->V ->Hp ->Prop)(hn:n<=1000)
   (mono:∀i y H' H'' D l,R i y H' ->H' D=some (.lst l) ->C1w D H' H'' ->R i y H'')
   (step:∀i H2 Qy,i<n ->Same H1 H2 ->(∀y H6,Same H2 H6 ->R i y H6 ->Qy y H6) ->J.go i H2/\∀x H3,J.yld i H2 x H3 ->g x σ0 H3 fun σ4 H4=>te σ4 H4 Qy)
   (stop:∀H2,Same H1 H2 ->J.stop n H2)
   (k:∀D H' ys,Same H1 H' ->H1 D=none ->H' D=some (.lst ys) ->ys.length=n ->(∀i y,ys[i]?=some y ->R i y H') ->QD D H'):∀D,H1 D=none ->
   ∃ (m:Nat) (W:Nat ->List V ->Hp ->Prop),W 0 [] (upd H1 D (.lst []))/\∀i ys H2,W i ys H2 ->i<=m/\H2 D=some (.lst ys)/\((J.stop i H2/\QD D H2)\/(i<m/\J.go i H2/\∀x H3,J.yld i H2 x H3 ->
     g x σ0 H3 fun σ4 H4=>te σ4 H4 fun y H6=>H6 D=some (.lst ys)/\ys.length<sizeLine/\W (i+1) (ys++ [y]) (upd H6 D (.lst (ys++ [y]))))):=by
 intro D hD
 refine⟨n,fun i ys H2=>i<=n/\ys.length=i/\H2 D=some (.lst ys)/\Same H1 H2/\∀j y,ys[j]?=some y ->R j y H2,⟨Nat.zero_le _,rfl,A9,Same.upd hD,fun j y h=>by simp at h⟩,?_⟩
 rintro i ys H2 ⟨hi,hl,hd,sm,hR⟩
 refine⟨hi,hd,?_⟩
 by_cases hlt:i<n
 . refine .inr ⟨hlt,step i H2 _ hlt sm fun y H6 s6 r6=>?_⟩
   have d6:H6 D=some (.lst ys):=s6 _ _ hd
   have ex:C1w D H6 (upd H6 D (.lst (ys++ [y]))):=fun b o e hb=>by rw[C8 hb];exact e
   refine⟨d6,Nat.lt_of_le_of_lt (by omega:ys.length<=1000) (U8 (Nat.le_refl _)),hlt,by simp[hl],A9,fun b o e=>?_,fun j z hj=>?_⟩
   . rw[C8 (D9 e hD)]
     exact s6 _ _ (sm _ _ e)
   . by_cases hj':j<ys.length
     . rw[List.getElem?_append_left hj'] at hj
       exact mono j z H6 _ D ys (mono j z H2 H6 D ys (hR j z hj) hd fun b o e _=>s6 _ _ e) d6 ex
     . rw[List.getElem?_append_right (by omega)] at hj
       have e0:j-ys.length=0:=by
         apply Classical.byContradiction
         intro q
         rw[List.getElem?_eq_none (by simp;omega)] at hj
         cases hj
       rw[e0] at hj
       have ej:j=i:=by omega
       subst ej
       cases hj
       exact mono _ _ H6 _ D ys r6 d6 ex
 . have e:i=n:=by omega
   subst e
   exact .inl ⟨stop H2 sm,k D H2 ys sm hD hd hl hR⟩
open AutoSeq1 (wpAny_loadPart')
section
variable{prog:Program}{w:World}{A:Around}{E:Value ->Shared ->Prop}{s:Shared}
end
section
variable{X:Cx}{es:List Expr}{k:Nat}{tp:Pos}
end
end L2
namespace L2
open PySem PySem.Spec PyProof.Rows PySem.W
section
variable{X:Cx}
theorem A5h:Y3 X (.builtin "divmod") (fun xs H Q=>∃i j:Int,xs=[.int i,.int j]/\(0<j/\j.natAbs.log2<9000)/\∀p,H p=none ->Q (.ref p) (upd H p (.tup [.int (i/j),.int (i % j)]))):=by
 intro pins s σ H xs us Q I r h
 obtain⟨i,j,rfl,⟨h1,h2⟩,q⟩:=h
 obtain⟨u,w',rfl,⟨t,rfl⟩,⟨t',rfl⟩⟩:=B4u r
 refine divmod_int (by omega) ?_ (.inl (PyProof.noPylong_of_log2 h2))
 rw[Int.fdiv_eq_ediv_of_nonneg i (by omega),Int.fmod_eq_emod_of_nonneg i (by omega)]
 refine⟨.ref s.heap.objs.size,upd H s.heap.objs.size (.tup [.int (i/j),.int (i % j)]),I.laid (fun b o e=>Heap.get?_push_of_some _ e) (Nat.le_refl _) ⟨A2 (by show 2<=1000;decide),[.int (i/j) s.toks,.int (i % j) (s.toks+1)],.cons ⟨_,rfl⟩ (.cons ⟨_,rfl⟩ .nil),⟨_,Heap.get?_push_size s.heap rfl,rfl,0,rfl⟩⟩,rfl,q _ (I.hok.fresh (Nat.le_refl _))⟩
end
end L2
namespace L2
open PySem PySem.W PyProof.Rows
section
variable{X:Cx}{o e:Expr}{ta:TE}{m:Str}{apos pos:Pos}{j k:Nat}{ps:List Str}{ι:Type}{cw f:ι ->Addr}{fd:ι ->FuncData}{sp:ι ->Sp}{EH:EK}
end
section
variable{X:Cx}{a b e o:Expr}{es:List Expr}{ta tb te to:TE}{t:TA}{pos:Pos}{st:Stmt}{rest:List Stmt}{ts u:TS}
end
end L2
namespace L2
open PySem PySem.Spec PyProof.Rows PySem.W
section
variable{X:Cx}{x f:Str}{p cpos pos:Pos}{e:Expr}{t:TA}{C fI:Addr}{fdI:FuncData}{ps:List Str}{j k:Nat}
end
section
variable{X:Cx}{x y:Str}{e:Expr}{t:TE}{p q:Pos}{pos pos2:Pos}
end
end L2
namespace L2
open PySem PySem.Spec PyProof.Rows
end L2
namespace L2
open PySem PySem.Spec PyProof.Rows PySem.W
mutual
inductive RdR(H:Hp):V ->PyData ->Prop where
 |non:RdR H .non .none
 |bl (b:Bool):RdR H (.bl b) (.bool b)
 |int (i:Int):RdR H (.int i) (.int i)
 |str (x:Str):RdR H (.str x) (.str x)
 |tup {a:Addr} {xs:List V} {ds:List PyData} (h:H a=some (.tup xs)) (r:RdRs H xs ds):RdR H (.ref a) (.tuple ds)
 |lst {a:Addr} {xs:List V} {ds:List PyData} (h:H a=some (.lst xs)) (n:a≠sysModules) (r:RdRs H xs ds):RdR H (.ref a) (.list ds)
 |dct0 {a:Addr} (h:H a=some (.dK [])):RdR H (.ref a) (.dict [])
 |dct1 {a:Addr} {z:Str} {b:Bool} (h:H a=some (.dK [(.inr z,.bl b)])):RdR H (.ref a) (.dict [(.str z,.bool b)])
inductive RdRs(H:Hp):List V ->List PyData ->Prop where
 |nil:RdRs H [] []
 |cons {x:V} {xs:List V} {d:PyData} {ds:List PyData} (h:RdR H x d) (r:RdRs H xs ds):RdRs H (x::xs) (d::ds)
end
mutual
theorem RdR.same{H H':Hp}(s:∀b o,H b=some o ->H' b=some o):∀{x:V} {d:PyData},RdR H x d ->RdR H' x d
 |_,_,.non=> .non
 |_,_,.bl b=> .bl b
 |_,_,.int i=> .int i
 |_,_,.str x=> .str x
 |_,_,.tup h r=> .tup (s _ _ h) (RdRs.same s r)
 |_,_,.lst h n r=> .lst (s _ _ h) n (RdRs.same s r)
 |_,_,.dct0 h=> .dct0 (s _ _ h)
 |_,_,.dct1 h=> .dct1 (s _ _ h)
theorem RdRs.same{H H':Hp}(s:∀b o,H b=some o ->H' b=some o):∀{x:List V} {d:List PyData},RdRs H x d ->RdRs H' x d
 |_,_,.nil=> .nil
 |_,_,.cons h r=> .cons (RdR.same s h) (RdRs.same s r)
end
section
variable{X:Cx}
mutual
theorem RdR.reads{pins:List (Addr×Obj)}{σ:St}{H:Hp}{s:Shared}(I:Inv X pins σ H s):∀{x:V} {d:PyData} {u:Value},RdR H x d ->RelV x u ->∃as,Reads s.heap u d as/\sysModules ∉ as
 |_,_,_,.non,r=>by cases r;exact⟨_,.none,by simp⟩
 |_,_,_,.bl b,r=>by cases r;exact⟨_,.bool b,by simp⟩
 |_,_,_,.int i,r=>by obtain⟨t,rfl⟩:=r;exact⟨_,.int i t,by simp⟩
 |_,_,_,.str x,r=>by obtain⟨t,rfl⟩:=r;exact⟨_,.str x t,by simp⟩
 | _,_,_,.tup h q,r=>by
   cases r
   obtain⟨_,its,rv,o,e,c,n,d⟩:=I.hok _ _ h
   obtain⟨as,z,y⟩:=RdRs.reads I q rv
   exact⟨_,.tuple e c d (by simpa using z),y⟩
 | _,_,_,.lst (a:=a) h nn q,r=>by
   cases r
   obtain⟨_,its,n,rv,e⟩:=I.hok _ _ h
   obtain⟨as,z,y⟩:=RdRs.reads I q rv
   refine⟨_,.list e rfl rfl (by simpa using z),fun hm=>?_⟩
   rcases List.mem_cons.mp hm with hm|hm
   . exact nn hm.symm
   . exact y hm
 | _,_,_,.dct0 (a:=a) h,r=>by
   cases r
   obtain⟨_,nS,vs,kv,o,es,ep,e,c,d,_,ps,_⟩:=I.hok _ _ h
   cases kv
   cases hp:es.toList with
   |cons _ _=>rw[hp] at ps;cases ps
   | nil=>
     refine⟨_,.dict (kvs:=[]) e c.1 d (by rw[hp];exact .nil) (by rw[hp];exact .nil),fun hm=>?_⟩
     exact beq_eq_false_iff_ne.mp nS (by simpa using hm:sysModules=a).symm
 | _, _, _,.dct1 (a:=a) (z:=z) (b:=b) h,r=>by
   cases r
   obtain⟨_,nS,vs,kv,o,es,ep,e,c,d,_,ps,_⟩:=I.hok _ _ h
   cases kv with
   | cons k1 k2=>
     cases k2
     obtain⟨k1a,k1b⟩:=k1
     cases ps':es.toList with
     |nil=>rw[ps'] at ps;cases ps
     | cons en rest=>
       rw[ps'] at ps
       cases ps with
       | cons p1 p2 p3=>
         cases p3
         have hk:∃t,en.key= .str z t:=by
           rw[<-k1a] at p1
           have p1:Value.isStrOf z en.key=true:=p1
           cases hk:en.key<;>rw[hk] at p1<;>simp[Value.isStrOf] at p1
           subst p1
           exact⟨_,rfl⟩
         obtain⟨t,hk⟩:=hk
         have hv:en.val= .bool b:=p2.trans k1b
         refine⟨_,.dict (kvs:=[(.str z,.bool b)]) e c.1 d (by rw[ps'];show ReadsAll s.heap [en.key] [.str z] _;rw[hk];exact .cons (.str z t) .nil) (by rw[ps'];show ReadsAll s.heap [en.val] [.bool b] _;rw[hv];exact .cons (.bool b) .nil),fun hm=>?_⟩
         exact beq_eq_false_iff_ne.mp nS (by simpa using hm:sysModules=a).symm
theorem RdRs.reads{pins:List (Addr×Obj)}{σ:St}{H:Hp}{s:Shared}(I:Inv X pins σ H s):∀{xs:List V} {ds:List PyData} {us:List Value},RdRs H xs ds ->Vals xs us ->∃as,ReadsAll s.heap us ds as/\sysModules ∉ as
 |_,_,_,.nil,r=>by cases r;exact⟨_,.nil,by simp⟩
 | _,_,_,.cons h q,r=>by
   cases r with
   | cons r1 r2=>
     obtain⟨as,z,n1⟩:=RdR.reads I h r1
     obtain⟨bs,y,n2⟩:=RdRs.reads I q r2
     exact⟨_,.cons z y,by simp[n1,n2]⟩
end
end
section
variable{X:Cx}{j k:Nat}{f C:Addr}{fd:FuncData}{ps:List Str}{sp:Sp}{dvs:List V}{ds:List Value}{x m:Str}{p pos apos:Pos}{e o:Expr}{es:List Expr}{ta:TE}{t:TA}{st:Stmt}
end
section
variable{cs:List Addr}{H H' H2:Hp}{b:Addr}{P:Program}{w:World}{h h':Heap}{fs:List Addr}
end
section
variable{X:Cx}{j k:Nat}{f:Addr}{fd:FuncData}{ps:List Str}{sp:Sp}{ds:List Value}{EH:EK}{x:Str}{p pos:Pos}{e:Expr}{es:List Expr}{t:TA}{st:Stmt}
end
section
variable{X:Cx}
end
section
variable{X:Cx}{tg:Expr}
end
section
variable{X:Cx}
end
section
variable{prog:Program}{w:World}{A:Around}{E:Value ->Shared ->Prop}{s:Shared}
end
section
variable{X:Cx}{pos:Pos}
end
section
variable{X:Cx}{pos tpos pa pb:Pos}
end
section
variable{X:Cx}{N F:List Str}{js:List Nat}{scope:Scope}
end
section
variable{X:Cx}{tg:Expr}
end
section
variable{X:Cx}{pins:List (Addr×Obj)}{σ:St}{H:Hp}{s:Shared}
end
section
variable{X:Cx}{tg:Expr}
end
end L2
namespace TR
open PySem L2 PySem.W PyProof.Rows
structure OwnK(K:Frag):Prop where
 isi:nsIn K mainGlobals "isinstance"=some none
 int_:nsIn K mainGlobals "int"=some none
 bool_:nsIn K mainGlobals "bool"=some none
 str_:nsIn K mainGlobals "str"=some none
 list_:nsIn K mainGlobals "list"=some none
 tuple_:nsIn K mainGlobals "tuple"=some none
 dict_:nsIn K mainGlobals "dict"=some none
 len_:nsIn K mainGlobals "len"=some none
 range_:nsIn K mainGlobals "range"=some none
 min_:nsIn K mainGlobals "min"=some none
 max_:nsIn K mainGlobals "max"=some none
 abs_:nsIn K mainGlobals "abs"=some none
 any_:nsIn K mainGlobals "any"=some none
 all_:nsIn K mainGlobals "all"=some none
 sum_:nsIn K mainGlobals "sum"=some none
 repr_:nsIn K mainGlobals "repr"=some none
 enumerate_:nsIn K mainGlobals "enumerate"=some none
 reversed_:nsIn K mainGlobals "reversed"=some none
 zip_:nsIn K mainGlobals "zip"=some none
 sorted_:nsIn K mainGlobals "sorted"=some none
 divmod_:nsIn K mainGlobals "divmod"=some none
 set_:nsIn K mainGlobals "set"=some none
 ValueError_:nsIn K mainGlobals "ValueError"=some none
theorem OwnK.go{K:Frag}{h:Heap}{mg:Str ->Option Value}(u:OwnK K)(X:K.In h)(G:h.Ns mainGlobals mg):Own mg:=⟨mg_none_of X G u.isi,mg_none_of X G u.int_,mg_none_of X G u.bool_,mg_none_of X G u.str_,mg_none_of X G u.list_,mg_none_of X G u.tuple_,mg_none_of X G u.dict_,mg_none_of X G u.len_,mg_none_of X G u.range_,mg_none_of X G u.min_,mg_none_of X G u.max_,mg_none_of X G u.abs_,mg_none_of X G u.any_,mg_none_of X G u.all_,mg_none_of X G u.sum_,mg_none_of X G u.repr_,mg_none_of X G u.enumerate_,mg_none_of X G u.reversed_,mg_none_of X G u.zip_,mg_none_of X G u.sorted_,mg_none_of X G u.divmod_,mg_none_of X G u.set_,mg_none_of X G u.ValueError_⟩
end TR
namespace L2
open PySem PySem.Spec PyProof.Rows PySem.W
section
variable{X:Cx}{j k:Nat}{f:Addr}{EH:EK}{x y:Str}{p p1 pos:Pos}
end
section
variable{X:Cx}{N F:List Str}{js:List Nat}{scope:Scope}
end
section
variable{X:Cx}{N F:List Str}{js:List Nat}{scope:Scope}
end
section
variable{P:Program}{w:World}{K:Frag}{mg:Str ->Option Value}{base:Heap}{k:Nat}{f:Addr}{fd:FuncData}{ps:List Str}{sp:Sp}
end
section
variable{P:Program}{w:World}{K:Frag}{mg:Str ->Option Value}{base:Heap}
end
section
variable{X:Cx}{k j:Nat}{f C:Addr}{fd:FuncData}{ps:List Str}{sp:Sp}{dvs:List V}{ds:List Value}{EH:EK}{x m:Str}{st:Stmt}{p pos apos:Pos}{e o:Expr}{es:List Expr}{ta:TE}{t:TA}
end
section
variable{X:Cx}
end
section
variable{X:Cx}{x:Str}{p cpos pos:Pos}{e:Expr}{es:List Expr}{t:TA}{C:Addr}{bmB:List Value}{B newId initId:String}{EH:EK}
end
section
variable{X:Cx}{x f:Str}{p cpos pos:Pos}{e:Expr}{t:TA}{C fI:Addr}{fdI:FuncData}{ps:List Str}{EH:EK}{j k:Nat}
end
end L2
namespace TR
open PySem L2 PySem.W PyProof.Rows
end TR
namespace L2
open PySem PySem.Spec PyProof.Rows PySem.W
section
variable{X:Cx}{x n:Str}{np hpos pos:Pos}{R:Addr}{i:Nat}{body suite:List Stmt}{b₀:Stmt}{tb:EK ->TS}{ts:Addr ->TS}
end
section
variable{X:Cx}{k j:Nat}{f C:Addr}{fd:FuncData}{ps:List Str}{sp:Sp}{dvs:List V}{ds:List Value}{m:Str}{pos apos:Pos}{e o:Expr}{es:List Expr}{ta:TE}{t:TA}
end
section
variable{X:Cx}{j k:Nat}{f C:Addr}{fd:FuncData}{ps:List Str}{sp:Sp}{dvs:List V}{ds:List Value}{x m:Str}{p pos apos:Pos}{e o:Expr}{es:List Expr}{ta:TE}{t:TA}{st:Stmt}
end
section
variable{X:Cx}
end
section
variable{X:Cx}
end
section
variable{X:Cx}
end
end L2
namespace L2
open PySem PySem.Spec PyProof.Rows
end L2
namespace L2
open PySem PySem.Spec PyProof.Rows PySem.W
section
variable{X:Cx}
noncomputable def B9w:V ->List V ->Hp ->VK ->Prop:=fun x vs H Q=>∃z,x= .str z/\vs=[]/\(Txt.lower z).length<=sizeLine/\Q (.str (Txt.lower z)) H
theorem A6g:MtR X "str.lower" B9w:=by
 intro pins s σ H x vs v us Q I rx rv h
 obtain⟨z,rfl,rfl,hz,q⟩:=h
 obtain⟨t,rfl⟩:=(show∃t,v=Value.str z t from rx)
 rw[rv.zero]
 exact SC.lower (A2w hz) ⟨.str _,H,I.tok _,⟨_,rfl⟩,q⟩
noncomputable def B8t:V ->List V ->Hp ->VK ->Prop:=fun x vs H Q=>∃z y,x= .str z/\vs=[.str y]/\z.length<=sizeLine/\Q (.str (Txt.stripChars z y)) H
theorem A6n:MtR X "str.strip" B8t:=by
 intro pins s σ H x vs v us Q I rx rv h
 obtain⟨z,y,rfl,rfl,hz,q⟩:=h
 obtain⟨t,rfl⟩:=(show∃t,v=Value.str z t from rx)
 obtain⟨u,rfl,ru⟩:=rv.one
 obtain⟨k,rfl⟩:=(show∃k,u=Value.str y k from ru)
 exact SC.stripChars (fun t' k=>⟨.str _,H,I.tok _,⟨_,rfl⟩,q⟩) hz
noncomputable def B7n:V ->List V ->Hp ->VK ->Prop:=fun x vs H Q=>∃z y,x= .str z/\vs=[.str y]/\z.length<=sizeLine/\Q (.str (Txt.lstripChars z y)) H
theorem B1b:MtR X "str.lstrip" B7n:=by
 intro pins s σ H x vs v us Q I rx rv h
 obtain⟨z,y,rfl,rfl,hz,q⟩:=h
 obtain⟨t,rfl⟩:=(show∃t,v=Value.str z t from rx)
 obtain⟨u,rfl,ru⟩:=rv.one
 obtain⟨k,rfl⟩:=(show∃k,u=Value.str y k from ru)
 exact SC.lstripChars (fun t' k=>⟨.str _,H,I.tok _,⟨_,rfl⟩,q⟩) hz
noncomputable def B8m:V ->List V ->Hp ->VK ->Prop:=fun x vs H Q=>∃z i,x= .str z/\vs=[.int i]/\PadOk i=true/\Q (.str (Txt.zfill z i)) H
theorem B4m:MtR X "str.zfill" B8m:=by
 intro pins s σ H x vs v us Q I rx rv h
 obtain⟨z,i,rfl,rfl,hp,q⟩:=h
 obtain⟨t,rfl⟩:=(show∃t,v=Value.str z t from rx)
 obtain⟨u,rfl,ru⟩:=rv.one
 obtain⟨k,rfl⟩:=(show∃k,u=Value.int i k from ru)
 exact SC.zfill hp (fun t' k=>⟨.str _,H,I.tok _,⟨_,rfl⟩,q⟩)
noncomputable def B6a:V ->List V ->Hp ->VK ->Prop:=fun x vs H Q=>∃z y,x= .str z/\vs=[.str y]/\Q (.bl (Txt.startswith z y)) H
theorem B1f:MtR X "str.startswith" B6a:=by
 intro pins s σ H x vs v us Q I rx rv h
 obtain⟨z,y,rfl,rfl,q⟩:=h
 obtain⟨t,rfl⟩:=(show∃t,v=Value.str z t from rx)
 obtain⟨u,rfl,ru⟩:=rv.one
 obtain⟨k,rfl⟩:=(show∃k,u=Value.str y k from ru)
 exact SC.startswith ⟨.bl _,H,I,rfl,q⟩
theorem A7x (x : Str) (t : Tok) (l : Addr) (a b : Str) (ta tb : Tok) (n : Nat) (dd : Option Addr) (sl : Array (Option Value)) : Meets (Builtin.«str.startswith» { pos := [Value.str x t, Value.ref l] }) fun _ R s => s.heap.get? l = some { cls := .type "tuple", dict := dd, data := Data.seq #[.str a ta, .str b tb] n, slots := sl } /\ R (Except.ok (Flow.ret (.bool (Txt.startswith x a || Txt.startswith x b)))) s :=
 Meets.of_wp fun prog w A R s h=>by
   obtain⟨hl,h⟩:=h
   refine wpAny_bind (wpAny_of_eq (show Builtin.Str.strSomeArgs "startswith" 1 3 {pos:=[Value.str x t,Value.ref l]}=pure (Value.str x t,x,[Value.ref l]) from rfl) ?_)
   refine wpAny_bind (wpAny_of_eq (show Builtin.Str.searchRange x.length []=pure (0,min x.length x.length) from rfl) ?_)
   refine wpAny_bind ?_
   refine wpAny_bind (wpAny_load hl ?_)
   refine wpAny_pure ?_
   refine wpAny_bind (wpAny_isInstance (T:="tuple") (U:="tuple") (b:=true) ⟨_,hl,rfl⟩ ?_ ?_)
   . exact sub_tuple_self
   refine wpAny_ite_true rfl ?_
   refine wpAny_bind (wpAny_rule ?_)
   refine wpAny_bind (wpAny_seqItems hl rfl ?_)
   refine wpAny_bind ?_
   rw[<-Array.forIn_toList]
   rw[List.forIn_cons]
   refine wpAny_bind ?_
   refine wpAny_bind ?_
   refine wpAny_pure ?_
   have key:∀y,(decide (0+y.length<=min x.length x.length)&&Builtin.Str.subAt x y 0)=Txt.startswith x y:=fun y=>by
     rw[Nat.min_self]
     rfl
   cases h1:Txt.startswith x a with
   | true=>
     refine wpAny_ite_true (decide_eq_true ((key a).trans h1)) ?_
     refine wpAny_bind (wpAny_pure ?_)
     refine wpAny_pure ?_
     refine wpAny_pure ?_
     refine wpAny_pure ?_
     rw[h1] at h
     exact⟨_,rfl,h⟩
   | false=>
     refine wpAny_ite_false (decide_eq_false (fun z=>Bool.false_ne_true (h1.symm.trans ((key a).symm.trans z)))) ?_
     refine wpAny_pure ?_
     show wpAny _ _ (forIn [Value.str b tb] (none,()) _) _ _ _
     rw[List.forIn_cons]
     refine wpAny_bind ?_
     refine wpAny_bind ?_
     refine wpAny_pure ?_
     rw[h1,Bool.false_or] at h
     cases h2:Txt.startswith x b with
     | true=>
       refine wpAny_ite_true (decide_eq_true ((key b).trans h2)) ?_
       refine wpAny_bind (wpAny_pure ?_)
       refine wpAny_pure ?_
       refine wpAny_pure ?_
       refine wpAny_pure ?_
       rw[h2] at h
       exact⟨_,rfl,h⟩
     | false=>
       refine wpAny_ite_false (decide_eq_false (fun z=>Bool.false_ne_true (h2.symm.trans ((key b).symm.trans z)))) ?_
       refine wpAny_pure ?_
       show wpAny _ _ (forIn [] (none,()) _) _ _ _
       rw[List.forIn_nil]
       refine wpAny_pure ?_
       rw[h2] at h
       exact wpAny_pure ⟨_,rfl,h⟩
noncomputable def B3d:V ->List V ->Hp ->VK ->Prop:=fun x vs H Q=>∃z p a b,x= .str z/\vs=[.ref p]/\H p=some (.tup [.str a,.str b])/\Q (.bl (Txt.startswith z a||Txt.startswith z b)) H
theorem A8m:MtR X "str.startswith" B3d:=by
 intro pins s σ H x vs v us Q I rx rv h
 obtain⟨z,p,a,b,rfl,rfl,hp,q⟩:=h
 obtain⟨t,rfl⟩:=(show∃t,v=Value.str z t from rx)
 obtain⟨u,rfl,ru⟩:=rv.one
 cases ru
 obtain⟨_,items,r,⟨ob,e,hc,n,hd⟩⟩:=(show ObjOk X.prog X.w H s.heap p (.tup [.str a,.str b]) from I.hok p _ hp)
 obtain⟨u1,u2,rfl,⟨k1,rfl⟩,⟨k2,rfl⟩⟩:=B4u r
 obtain⟨c,dd,dt,sl⟩:=ob
 cases hc
 cases hd
 exact call_meets F.slot_str_startswith (typeIs_str _ _ _) F.entry_str_startswith (F.args_str_startswith_2 _ _) (A7x z t p a b k1 k2 n dd sl) ⟨e,.bl _,H,I,rfl,q⟩
noncomputable def C1q:V ->List V ->Hp ->VK ->Prop:=fun x vs H Q=>∃z y,x= .str z/\vs=[.str y]/\(y.length==0)=false/\z.length<=sizeLine/\∀p,H p=none ->Q (.ref p) (upd H p (.tup [.str (Txt.partition z y).1,.str (Txt.partition z y).2.1,.str (Txt.partition z y).2.2]))
theorem A9x:MtR X "str.partition" C1q:=by
 intro pins s σ H x vs v us Q I rx rv h
 obtain⟨z,y,rfl,rfl,hy,hz,q⟩:=h
 obtain⟨t,rfl⟩:=(show∃t,v=Value.str z t from rx)
 obtain⟨u,rfl,ru⟩:=rv.one
 obtain⟨k,rfl⟩:=(show∃k,u=Value.str y k from ru)
 refine call_meets F.slot_str_partition (typeIs_str _ _ _) F.entry_str_partition (F.args_str_partition_2 _ _) (meets_str_partition z y t k hy hz) ?_
 have fin:∀ta tb tc h' n,h'=s.heap.push {cls:= .type "tuple",data:= .seq [Value.str (Txt.partition z y).1 ta,.str (Txt.partition z y).2.1 tb,.str (Txt.partition z y).2.2 tc].toArray} ->EP X pins σ Q (.ref s.heap.objs.size) {s with heap:=h',toks:=n}:=by
   intro ta tb tc h' n e
   subst e
   exact⟨.ref s.heap.objs.size,upd H s.heap.objs.size (.tup [.str (Txt.partition z y).1,.str (Txt.partition z y).2.1,.str (Txt.partition z y).2.2]),I.laid (fun b o e=>Heap.get?_push_of_some _ e) (Nat.le_refl _) ⟨A2 (by show 3<=1000;decide),[.str _ ta,.str _ tb,.str _ tc],.cons ⟨_,rfl⟩ (.cons ⟨_,rfl⟩ (.cons ⟨_,rfl⟩ .nil)),⟨_,Heap.get?_push_size s.heap rfl,rfl,0,rfl⟩⟩,rfl,q _ (I.hok.fresh (Nat.le_refl _))⟩
 revert fin
 unfold Txt.partition
 cases Builtin.Str.occurrences z y 0 z.length 1 with
 |nil=>intro h';exact h' _ _ _ _ _ rfl
 |cons i r=>intro h';exact h' _ _ _ _ _ rfl
noncomputable def C2g (tb:EK ->TS):TS:=fun D σ H=>tb (fun _ _ _ _=>False) D σ H
theorem B6u{ty:Option Expr}{nm:Option Str}{suite body:List Stmt}{hpos pos:Pos}{tb:EK ->TS}(hb:∀pins Ew EHb,G6 (X.hold pins Ew) EHb ->PSs (X.hold pins Ew) body (tb EHb)):
   PS X (.Try body [.ExceptHandler ty nm suite hpos] [] [] pos) (C2g tb):=by
 intro pins s σ H D I h
 refine wpAny_Try_except ?_
 refine wpAny_mono (hb pins _ (fun _ _ _ _=>False) ?cat [] s σ H D I.hold h) (fun f s1 hf1=>?_) (fun e s1 he=>he)
 case cat=>
   intro pins' σ' H' s' a t C dd I' F' hE
   exact hE.elim
 . cases f with
   |next=>exact wpAny_execs_nil (SP.unhold hf1)
   |brk=>exact SP.unhold hf1
   |cont=>exact SP.unhold hf1
   |ret u=>exact SP.unhold hf1
end
noncomputable def S (l:List Nat):Str:=⟨l.toArray⟩
theorem G8(l:List Nat):(S l).cps.toList=l:=rfl
theorem B0(l:List Nat):(S l).length=l.length:=by
 show l.toArray.size=l.length
 simp
theorem A2r(z:Str):S z.cps.toList=z:=by
 unfold S
 rw[Array.toArray_toList]
theorem A6u{l m:List Nat}(h:S l=S m):l=m:=by
 have:=congrArg (fun z:Str=>z.cps.toList) h
 exact this
theorem D0(l m:List Nat):S l++S m=S (l++m):=by
 rw[<-A2r (S l++S m),Str.cps_append,Array.toList_append]
 rfl
theorem A6q(l:List Nat)(i j:Nat):Builtin.Str.strSub (S l) i j=S ((l.take j).drop i):=by
 unfold Builtin.Str.strSub
 rw[<-A2r (⟨(S l).cps.extract i j⟩:Str)]
 congr 1
 show((S l).cps.extract i j).toList=_
 rw[Array.toList_extract,G8]
 rw[List.extract_eq_take_drop,List.drop_take]
theorem A0d(l:List Nat)(c:Nat):Txt.startswith (S l) (S [c])=decide (l.head?=some c):=by
 unfold Txt.startswith Builtin.Str.subAt
 rw[B0,B0]
 cases l with
 |nil=>rfl
 | cons a t=>
   have e:(S (a::t)).cps.extract 0 (0+ [c].length)= #[a]:=by
     apply Array.toList_inj.mp
     rw[Array.toList_extract,G8]
     rfl
   rw[e]
   show(decide (0+1<=t.length+1)&&(#[a]== #[c]))=decide (some a=some c)
   rw[decide_eq_true (by omega),Bool.true_and]
   by_cases h:a=c
   . subst h
     simp
   . rw[decide_eq_false (fun z=>h (Option.some.inj z))]
     simp[h]
theorem B6f(l:List Nat)(a n:Nat)(h:a+n<=l.length):((List.range n).map fun k=>a+k).filterMap ((S l).cps[·]?)=(l.drop a).take n:=by
 induction n with
 |zero=>simp
 | succ n ih=>
   rw[List.range_succ,List.map_append,List.filterMap_append,ih (by omega)]
   have e:(S l).cps[a+n]?=some (l[a+n]'(by omega)):=by
     show l.toArray[a+n]?=_
     simp
   rw[show(l.drop a).take (n+1)=(l.drop a).take n++ [l[a+n]'(by omega)] by
     rw[List.take_succ,List.getElem?_drop,List.getElem?_eq_getElem (by omega)]
     rfl]
   simp[e]
theorem B0f(l:List Nat)(lo hi:Option Int)(a b:Nat)(hab:a<=b)(hb:b<=l.length)(h:Builtin.Str.strSliceIndices lo hi 1 l.length=(List.range (b-a)).map fun k=>a+k):A2s (S l) lo hi=S ((l.take b).drop a):=by
 unfold A2s
 rw[B0,h]
 have len:((List.range (b-a)).map fun k=>a+k).length=b-a:=by simp
 rw[len]
 split
 . rename_i z
   have z:b-a=l.length:=by simpa using z
   have:a=0:=by omega
   have:b=l.length:=by omega
   subst_vars
   rw[List.take_length]
   rfl
 . rw[B6f l a (b-a) (by omega),List.drop_take]
   rfl
noncomputable def A2t (n:Nat) (d:Int):Option Int ->Int
 |none=>d
 |some i=>max 0 (min (if i<0 then i+n else i) n)
theorem A9y(lo hi:Option Int)(n a b:Nat)(hab:a<=b)(h1:A2t n 0 lo=(a:Int))(h2:A2t n n hi=(b:Int)):Builtin.Str.strSliceIndices lo hi 1 n=(List.range (b-a)).map fun j=>a+j:=by
 have e:Builtin.Str.strSliceIndices lo hi 1 n=PySem.sliceRange (A2t n 0 lo) (A2t n n hi) 1:=by
   cases lo<;>cases hi<;>rfl
 rw[e,h1,h2]
 unfold PySem.sliceRange
 rw[if_pos (by decide)]
 have c:(if(a:Int)<b then((b:Int)-a+1-1)/1 else 0).toNat=b-a:=by
   split<;>omega
 dsimp only
 rw[c]
 apply List.map_congr_left
 intro k _
 omega
theorem A0a(l:List Nat)(k:Nat)(h:k<=l.length):A2s (S l) (some (k:Int)) none=S (l.drop k):=by
 have:=B0f l (some (k:Int)) none k l.length h (Nat.le_refl _) (A9y _ _ _ _ _ h (by unfold A2t;dsimp only;omega) (by unfold A2t;rfl))
 rw[this,List.take_length]
theorem B8n(l:List Nat)(k:Nat)(h:k<=l.length):A2s (S l) none (some (k:Int))=S (l.take k):=by
 have:=B0f l none (some (k:Int)) 0 k (Nat.zero_le _) h (A9y _ _ _ _ _ (Nat.zero_le _) (by unfold A2t;dsimp only;omega) (by unfold A2t;dsimp only;omega))
 rw[this,List.drop_zero]
theorem B3f(l:List Nat)(k:Nat)(h:k<=l.length)(h1:1<=k):A2s (S l) (some (-(k:Int))) none=S (l.drop (l.length-k)):=by
 have:=B0f l (some (-(k:Int))) none (l.length-k) l.length (by omega) (Nat.le_refl _) (A9y _ _ _ _ _ (by omega) (by unfold A2t;dsimp only;split<;>omega) (by unfold A2t;rfl))
 rw[this,List.take_length]
theorem A6t(l:List Nat)(k:Nat)(h:k<=l.length)(h1:1<=k):A2s (S l) none (some (-(k:Int)))=S (l.take (l.length-k)):=by
 have:=B0f l none (some (-(k:Int))) 0 (l.length-k) (Nat.zero_le _) (by omega) (A9y _ _ _ _ _ (Nat.zero_le _) (by unfold A2t;dsimp only;omega) (by unfold A2t;dsimp only;split<;>omega))
 rw[this,List.drop_zero]
theorem B0p{l:List Nat}(h:∀c∈l,c<128):Txt.lower (S l)=S (l.map lo1):=by
 rw[lower_ascii (x:=S l) h]
 unfold S
 simp
theorem B6h{l:List Nat}(h:∀c∈l,c<128):Txt.upper (S l)=S (l.map up1):=by
 rw[upper_ascii (x:=S l) h]
 unfold S
 simp
theorem C1r{c:Nat}(h:¬(65<=c/\c<=90)):lo1 (up1 c)=c:=by
 unfold up1
 split
 . unfold lo1
   rw[if_pos (by omega)]
   omega
 . unfold lo1
   rw[if_neg h]
theorem C1x{c:Nat}(h:¬(65<=c/\c<=90)):lo1 c=c:=by
 unfold lo1
 rw[if_neg h]
theorem A1e(p:Nat ->Bool):∀l:List Nat,l.drop (l.takeWhile p).length=l.dropWhile p
 | []=>rfl
 | a ::t=>by
   cases h:p a with
   | true=>
     rw[List.takeWhile_cons_of_pos h,List.dropWhile_cons_of_pos h]
     exact A1e p t
   | false=>
     rw[List.takeWhile_cons_of_neg (by rw[h];exact Bool.false_ne_true),List.dropWhile_cons_of_neg (by rw[h];exact Bool.false_ne_true)]
     rfl
theorem A1n(l:List Nat)(p:List Nat):Txt.lstripChars (S l) (S p)=S (l.dropWhile p.contains):=by
 have hp:(S p).cps.contains=p.contains:=by
   funext c
   show p.toArray.contains c=_
   simp
 unfold Txt.lstripChars
 rw[PyProof.Rows.stripBy_eq,hp]
 unfold stripLo stripHi
 rw[if_pos rfl,if_neg (by decide),A6q,B0,List.take_length,G8]
 congr 1
 exact A1e _ l
theorem A5u(l:List Nat)(p:List Nat):Txt.stripChars (S l) (S p)=S ((l.dropWhile p.contains).reverse.dropWhile p.contains).reverse:=by
 have hp:(S p).cps.contains=p.contains:=by
   funext c
   show p.toArray.contains c=_
   simp
 unfold Txt.stripChars
 rw[PyProof.Rows.stripBy_eq,hp]
 unfold stripLo stripHi
 rw[if_pos rfl,if_pos rfl,A6q,B0,G8,A1e]
 congr 1
 have tl:(l.takeWhile p.contains).length+(l.dropWhile p.contains).length=l.length:=by
   rw[<-List.length_append,List.takeWhile_append_dropWhile]
 have dl:((l.dropWhile p.contains).reverse.takeWhile p.contains).length<=(l.dropWhile p.contains).length:=by
   have h:=congrArg List.length (List.takeWhile_append_dropWhile (p:=p.contains) (l:=(l.dropWhile p.contains).reverse))
   rw[List.length_append,List.length_reverse] at h
   omega
 rw[List.drop_take,A1e, <-A1e p.contains (l.dropWhile p.contains).reverse,List.drop_reverse,List.reverse_reverse]
 congr 1
 omega
theorem B9t(l:List Nat)(c i:Nat):PySem.StrLaws.At (S l) (S [c]) (S l).length i↔l[i]?=some c:=by
 unfold PySem.StrLaws.At Builtin.Str.subAt
 rw[B0,B0]
 have e:((S l).cps.extract i (i+ [c].length)).toList=(l.drop i).take 1:=by
   rw[Array.toList_extract,G8,List.extract_eq_take_drop]
   congr 1
   simp
 constructor
 . rintro⟨h1,h2⟩
   have h2:(S l).cps.extract i (i+ [c].length)=(S [c]).cps:=by simpa using h2
   have h3:=congrArg Array.toList h2
   rw[e,G8] at h3
   have h1:i+1<=l.length:=h1
   rw[List.drop_eq_getElem_cons (by omega)] at h3
   rw[List.getElem?_eq_getElem (by omega)]
   exact congrArg some (List.cons.inj h3).1
 . intro h
   obtain⟨hi,he⟩:=List.getElem?_eq_some_iff.mp h
   refine⟨hi,?_⟩
   have:(S l).cps.extract i (i+ [c].length)=(S [c]).cps:=by
     apply Array.toList_inj.mp
     rw[e,G8,List.drop_eq_getElem_cons hi,he]
     rfl
   rw[this]
   simp
theorem A6a{l:List Nat}{c:Nat}(h:c ∉ l):Txt.partition (S l) (S [c])=(S l,S [],S []):=by
 unfold Txt.partition
 rcases PySem.StrLaws.occ_head (S l) (S [c]) 1 (Nat.le_refl _) with⟨e,_⟩|⟨i,r,e,ha,_⟩
 . rw[e]
   rfl
 . exact absurd (List.mem_of_getElem? ((B9t l c i).mp ha)) h
theorem A5n{a b:List Nat}{c:Nat}(h:c ∉ a):Txt.partition (S (a++c::b)) (S [c])=(S a,S [c],S b):=by
 unfold Txt.partition
 have ha0:PySem.StrLaws.At (S (a++c::b)) (S [c]) (S (a++c::b)).length a.length:=(B9t _ _ _).mpr (by simp)
 rcases PySem.StrLaws.occ_head (S (a++c::b)) (S [c]) 1 (Nat.le_refl _) with⟨e,hn⟩|⟨i,r,e,ha,hn⟩
 . exact absurd ha0 (hn _)
 . have ei:i=a.length:=by
     have le:¬a.length<i:=fun z=>hn _ z ha0
     have ge:¬i<a.length:=fun z=>by
       have hc:=(B9t _ _ _).mp ha
       rw[List.getElem?_append_left z] at hc
       exact h (List.mem_of_getElem? hc)
     omega
   rw[e]
   dsimp only
   rw[A6q,A6q,B0,B0,ei]
   congr 2
   . simp
   . congr 1
     rw[List.take_of_length_le (by simp),Nat.add_comm,show [c].length=1 from rfl,Nat.add_comm, <-List.drop_drop,List.drop_left]
     rfl
theorem B6y(l:List Nat)(n:Nat)(h1:l.head?≠some 43)(h2:l.head?≠some 45):Txt.zfill (S l) (n:Int)=S (List.replicate (n-l.length) 48++l):=by
 unfold Txt.zfill
 rw[B0]
 split
 . rw[show n-l.length=0 by omega]
   rfl
 . have e:zfilled (S l) ((n:Int).toNat-l.length)=Builtin.Str.padded (S l) ((n:Int).toNat-l.length) 0 48:=by
     unfold zfilled
     have e0:(S l).cps[0]?=l.head?:=by
       show l.toArray[0]?=_
       cases l<;>rfl
     rw[e0]
     split
     . exact absurd (by assumption) h1
     . exact absurd (by assumption) h2
     . rfl
   rw[e]
   unfold Builtin.Str.padded S
   simp
noncomputable def dig (n:Nat):List Nat:=(Nat.toDigits 10 n).map Char.toNat
theorem B3a(n:Nat):Str.ofString (toString (n:Int))=S (dig n):=by
 rw[<-A2r (Str.ofString (toString (n:Int)))]
 congr 1
 exact KIN.signs_num n
end L2
namespace L2
open PySem PySem.Spec PyProof.Rows PySem.W PySem.NumText
theorem U7{n:Nat}(h:n<10):dig n=[48+n]:=by
 unfold dig
 rw[Nat.toDigits_of_lt_base h]
 show [(Nat.digitChar n).toNat]=_
 have:∀d:Nat,d<10 ->(Nat.digitChar d).toNat=48+d:=by decide
 rw[this n h]
theorem A1a{n:Nat}(h:10<=n):dig n=dig (n/10)++ [48+n % 10]:=by
 have hm:n % 10<10:=Nat.mod_lt n (by decide)
 have t:Nat.toDigits 10 (n/10)++Nat.toDigits 10 (n % 10)=Nat.toDigits 10 (10*(n/10)+n % 10):=Nat.toDigits_append_toDigits (by decide) (by omega) hm
 rw[Nat.div_add_mod] at t
 have e:dig n=dig (n/10)++dig (n % 10):=by
   unfold dig
   rw[<-t,List.map_append]
 rw[e,U7 hm]
theorem Z2(n:Nat):AllDigits (dig n):=by
 induction n using Nat.strongRecOn with
 | _ n ih=>
   by_cases h:n<10
   . rw[U7 h]
     intro c hc
     rw[List.mem_singleton.mp hc]
     omega
   . rw[A1a (by omega)]
     intro c hc
     rcases List.mem_append.mp hc with hc|hc
     . exact ih (n/10) (by omega) c hc
     . rw[List.mem_singleton.mp hc]
       omega
theorem A0j(n:Nat):dig n≠ []:=by
 by_cases h:n<10
 . rw[U7 h]
   exact fun z=>nomatch z
 . rw[A1a (by omega)]
   simp
theorem B0b(n:Nat):digitsVal (dig n)=n:=KIN.val_back n
theorem Y8{n k:Nat}(h:n<10^k)(hk:1<=k):(dig n).length<=k:=by
 induction k generalizing n with
 |zero=>omega
 | succ k ih=>
   by_cases h10:n<10
   . rw[U7 h10]
     show 1<=k+1
     omega
   . rw[A1a (by omega),List.length_append]
     have hk0:1<=k:=by
       cases k with
       |zero=>simp at h;omega
       |succ k=>omega
     have:=ih (n:=n/10) (by rw[Nat.pow_succ] at h;omega) hk0
     show _+1<=_
     omega
theorem B1u(l:List Nat):∀a:Nat,l.foldl (fun acc c=>acc*10+(c-48)) a=a*10^l.length+digitsVal l:=by
 unfold digitsVal
 induction l with
 |nil=>intro a;simp
 | cons c t ih=>
   intro a
   rw[List.foldl_cons,ih,List.foldl_cons,ih (0*10+(c-48)),List.length_cons,Nat.pow_succ]
   rw[Nat.zero_mul,Nat.zero_add,Nat.add_mul,Nat.mul_assoc,Nat.mul_comm 10,Nat.add_assoc]
theorem A5d(l m:List Nat):digitsVal (l++m)=digitsVal l*10^m.length+digitsVal m:=by
 rw[show digitsVal (l++m)=m.foldl (fun acc c=>acc*10+(c-48)) (digitsVal l) by unfold digitsVal;rw[List.foldl_append]]
 exact B1u m _
theorem A2a(k:Nat)(l:List Nat):digitsVal (List.replicate k 48++l)=digitsVal l:=by
 rw[A5d]
 have:digitsVal (List.replicate k 48)=0:=by
   induction k with
   |zero=>rfl
   | succ k ih=>
     rw[show List.replicate (k+1) 48=[48]++List.replicate k 48 from rfl,A5d,ih]
     show(0*10+0)*_+0=0
     omega
 rw[this,Nat.zero_mul,Nat.zero_add]
theorem A7t(l:List Nat):digitsVal (l.dropWhile ([48]:List Nat).contains)=digitsVal l:=by
 induction l with
 |nil=>rfl
 | cons c t ih=>
   by_cases h:c=48
   . subst h
     rw[List.dropWhile_cons_of_pos (by decide),ih]
     exact(A2a 1 t).symm
   . rw[List.dropWhile_cons_of_neg (by simp[h])]
noncomputable def digS:List Nat:=[48,49,50,51,52,53,54,55,56,57]
theorem A7j(c:Nat):digS.contains c=true↔48<=c/\c<=57:=by
 unfold digS
 simp
 omega
theorem A8x{p:Nat ->Bool}:∀{l:List Nat},l.dropWhile p=[] ->∀c∈l,p c=true
 | [],_,c,hc=>nomatch hc
 | a ::t,h,c,hc=>by
   cases hp:p a with
   | true=>
     rw[List.dropWhile_cons_of_pos hp] at h
     rcases List.mem_cons.mp hc with rfl|hc
     . exact hp
     . exact A8x h c hc
   | false=>
     rw[List.dropWhile_cons_of_neg (by rw[hp];exact Bool.false_ne_true)] at h
     cases h
theorem B3k{p:Nat ->Bool}:∀{l:List Nat},(∀c∈l,p c=true) ->l.dropWhile p=[]
 | [],_=>rfl
 | a::t,h=>by
   rw[List.dropWhile_cons_of_pos (h a (List.mem_cons_self ..))]
   exact B3k fun c hc=>h c (List.mem_cons_of_mem _ hc)
theorem B0x{p:Nat ->Bool}:∀{l:List Nat} {a:Nat} {t:List Nat},l.dropWhile p=a::t ->p a=false
 | [],_,_,h=>nomatch h
 | b ::u,a,t,h=>by
   cases hp:p b with
   | true=>
     rw[List.dropWhile_cons_of_pos hp] at h
     exact B0x h
   | false=>
     rw[List.dropWhile_cons_of_neg (by rw[hp];exact Bool.false_ne_true)] at h
     injection h with h1 h2
     rw[<-h1]
     exact hp
theorem A9g{l p:List Nat}:Txt.stripChars (S l) (S p)=S []↔∀c∈l,p.contains c=true:=by
 rw[A5u]
 constructor
 . intro h
   have h:=A6u h
   rw[List.reverse_eq_nil_iff] at h
   have h2:=A8x h
   cases hm:l.dropWhile p.contains with
   |nil=>exact A8x hm
   | cons a t=>
     have:=B0x hm
     rw[h2 a (by rw[hm];simp)] at this
     cases this
 . intro h
   rw[B3k h]
   rfl
end L2
namespace TR
open PySem L2 PySem.W PyProof.Rows
seal PE PS PSs PA PT PW PG PGs PI PO
noncomputable def top (i:Nat):Stmt:=PySem.Challenge.pw_tenreckon_k02_written_and_read.main.body.getD i (.Pass ⟨0,0,0,0⟩)
noncomputable abbrev B1k:Stmt:=(top 15)
section
variable{P:Program}{w:World}{K:Frag}{mg:Str ->Option Value}{base:Heap}
noncomputable def C1j (K:Frag):Sp:=fun vs H Q _=>∃v lo hi,vs=[v,.int lo,.int hi]/\((A2m lo hi v/\Q (.bl true) H)\/(B1q K H lo hi v/\Q (.bl false) H))
theorem C1y:FnScope ["thing","least","most"] ["thing","least","most"] (A6 B1k):=scK
theorem B8r(D:Def K mg "is_between" ["thing","least","most"] B1k f fd)(O:Own mg)(T:Kit K):FnOk P w K mg base (CX1 P w) 1 f fd ["thing","least","most"] (C1j K):=by
 refine FnOk.up (D.F.ok C1y (fun vs H Q E h=>?_) (fun cdv A outer s H vs Q E hr h=>?_))
 . obtain⟨v,lo,hi,rfl,_⟩:=h
   rfl
 . obtain ⟨v,lo,hi,rfl,h⟩:=h
   refine⟨_,(A1 (G4 (PW.pt (A4u (V2 (G7 (A1g O.isi (pv 0) (pty O.int_ boot_int)))) (A4a (G7 (A1g O.isi (pv 0) (pty O.bool_ boot_bool)))))) (A7 (B5 A2h)) C6)
     (A7 (B5 (A3c (U0 B8f (pv 0) (pv 1) (B7 _)) (A3g (U0 B8e (pv 0) (pv 2) (B7 _))))))),?_⟩
   rcases h with⟨⟨i,rfl,h1,h2⟩,k⟩|⟨⟨t,b1,b2,ty,k1,k2,bad⟩,k⟩
   . refine⟨_,rfl,_,_,_,_,true,rfl,rfl,A6j i,T.int_int,_,rfl,U6 ?_⟩
     refine⟨_,rfl,_,_,_,_,false,rfl,rfl,A6j i,T.int_bool,_,rfl,U6 ?_⟩
     refine⟨_,rfl,_,rfl,_,_,rfl,rfl,_,rfl,A7d h1 ?_⟩
     refine⟨_,rfl,_,rfl,_,_,rfl,rfl,?_⟩
     show Q (.bl (decide (i<=hi))) H
     rw[decide_eq_true h2]
     exact k
   . refine⟨_,rfl,_,_,_,_,b1,rfl,rfl,ty,k1,_,rfl,?_⟩
     cases b1 with
     |false=>exact Z9 (Z9 k)
     | true=>
       refine U6 ⟨_,rfl,_,_,_,_,b2,rfl,rfl,ty,k2,_,rfl,?_⟩
       cases b2 with
       |true=>exact Z9 k
       | false=>
         obtain⟨i,rfl,out⟩:=bad.resolve_left (by decide)
         refine U6 ⟨_,rfl,_,rfl,_,_,rfl,rfl,_,rfl,U4 (fun h1=>?_) (fun h1=>?_)⟩
         . refine⟨_,rfl,_,rfl,_,_,rfl,rfl,?_⟩
           show Q (.bl (decide (i<=hi))) H
           rw[decide_eq_false (by omega:¬i<=hi)]
           exact k
         . exact k
end
structure Err(K:Frag)(mg:Str ->Option Value)(x:Str)(CB:Addr):Prop where
 g:mg x=some (.ref CB)
 q:excIn K CB [.type "ValueError",.type "Exception",.type "BaseException",.type "object"] "ValueError.__new__"=true
noncomputable def A9e (lo hi:Int):Prop:=lo.natAbs.log2<1920/\hi.natAbs.log2<1920/\(Str.ofString (toString lo)).length<=100/\(Str.ofString (toString hi)).length<=100
noncomputable abbrev A0h:Stmt:=(top 16)
section
variable{P:Program}{w:World}{K:Frag}{mg:Str ->Option Value}{base:Heap}
noncomputable def B2p (K:Frag) (CB:Addr):Sp:=fun vs H Q E=>∃v lo hi,vs=[v,.int lo,.int hi]/\A9e lo hi/\
 ((A2m lo hi v/\Q .non H)\/(B1q K H lo hi v/\E (.ref CB) none H))
theorem B2a:FnScope ["thing","least","most"] ["thing","least","most"] (A6 A0h):=scK
theorem A3j{f f1 CB:Addr}(D:Def K mg "need_between" ["thing","least","most"] A0h f fd)(D1:Def K mg "is_between" ["thing","least","most"] B1k f1 fd1)(O:Own mg)(T:Kit K)(B:Err K mg "BadNumber" CB):
   FnOk P w K mg base (CX1 P w) 2 f fd ["thing","least","most"] (B2p K CB):=by
 have G1:=B8r (P:=P) (w:=w) (base:=base) D1 O T
 refine D.F.okE B2a (fun vs H Q E h=>?_) (fun X cdv A outer s H vs Q E hX hr hx h=>?_)
 . obtain⟨v,lo,hi,rfl,_⟩:=h
   rfl
 . subst hX
   obtain⟨v,lo,hi,rfl,⟨l1,l2,l3,l4⟩,h⟩:=h
   refine⟨_,(A7 (G4 (V2 (G7 (B8 D1 G1 hr hx (A0 (pv 0) (A0 (pv 1) (A0 (pv 2) A4))))))
     (A7 (Y4 (by rfl) B.g B.q PySem.F.excBase_ValueError hr.hd hx (A0 (B7d (.cons .lit (.cons (.int (pv 1)) (.cons .lit (.cons (.int (pv 2)) .nil))))) A4))) C6)),?_⟩
   rcases h with⟨g,k⟩|⟨bad,k⟩
   . exact⟨_,rfl,_,rfl,_,rfl,_,_,_,rfl,.inl ⟨g,_,rfl,U6 k⟩⟩
   . have a0:Str.empty.length=0:=rfl
     have a1:(Str.ofString "not a whole number from ").length=24:=by decide+kernel
     have a2:(Str.ofString " to ").length=4:=by decide+kernel
     have sz:∀{n:Nat},n<=1000 ->n<=sizeLine:=fun h=>Nat.le_of_lt (U8 h)
     refine⟨_,rfl,_,rfl,_,rfl,_,_,_,rfl,.inr ⟨bad,_,rfl,Z9 ?_⟩⟩
     exact⟨_,rfl,sz (by rw[strLen_append];omega),_,rfl,_,rfl,l1,_,rfl,sz (by rw[strLen_append,strLen_append];omega),_,rfl,sz (by rw[strLen_append,strLen_append,strLen_append];omega),_,rfl,_,rfl,l2,_,rfl,sz (by rw[strLen_append,strLen_append,strLen_append,strLen_append];omega),sz (by rw[strLen_append,strLen_append,strLen_append,strLen_append];omega),sz (by show 1<=1000;decide),k⟩
end
noncomputable abbrev A4w:Stmt:=(B5y (top 8) 0)
noncomputable abbrev A9q:Stmt:=(top 12)
noncomputable abbrev A3k:Stmt:=(top 14)
structure Num(K:Frag)(mg:Str ->Option Value)(CN:Addr):Prop where
 g:mg "Number"=some (.ref CN)
 cl:Cls K CN
 n1:NoAttr K CN "kind"
 n2:NoAttr K CN "sign"
 n3:NoAttr K CN "figures"
 n4:NoAttr K CN "power"
 ca:findIn K (.ref CN) "__class__"=some (some (.builtin "object.__class__"))
 sn:specialIn K (.builtin "object.__class__") "__get__"=some (some (.builtin "getset_descriptor.__get__"))
 tk:takesIn K (.builtin "object.__class__")=some true
 ob:mroIn K CN (.type "object")=some true
 self:kitOne K (.ref CN) (.ref CN)=some true
noncomputable def A4e (k s f p:V):List (Str×V):=V9 "power" p (V9 "figures" f (V9 "sign" s (V9 "kind" k [])))
theorem e12:¬(("kind":Str)="sign"):=by decide+kernel
theorem e13:¬(("kind":Str)="figures"):=by decide+kernel
theorem e14:¬(("kind":Str)="power"):=by decide+kernel
theorem e23:¬(("sign":Str)="figures"):=by decide+kernel
theorem e24:¬(("sign":Str)="power"):=by decide+kernel
theorem e34:¬(("figures":Str)="power"):=by decide+kernel
theorem B9a(k s f p:V):(A4e k s f p).lookup ("kind":Str)=some k:=by unfold A4e;rw[C9,if_neg e14,C9,if_neg e13,C9,if_neg e12,C9,if_pos rfl]
theorem C2b(k s f p:V):(A4e k s f p).lookup ("sign":Str)=some s:=by unfold A4e;rw[C9,if_neg e24,C9,if_neg e23,C9,if_pos rfl]
theorem B6g(k s f p:V):(A4e k s f p).lookup ("figures":Str)=some f:=by unfold A4e;rw[C9,if_neg e34,C9,if_pos rfl]
theorem B3s(k s f p:V):(A4e k s f p).lookup ("power":Str)=some p:=by unfold A4e;rw[C9,if_pos rfl]
noncomputable def NumAt (CN:Addr) (H:Hp) (n:Addr) (k s f p:V):Prop:=∃dx,H n=some (.ins CN dx (A4e k s f p))
theorem NumAt.same{CN:Addr}{H H':Hp}{n:Addr}{k s f p:V}(h:NumAt CN H n k s f p)(e:Same H H'):NumAt CN H' n k s f p:=by
 obtain⟨dx,z⟩:=h
 exact⟨dx,e _ _ z⟩
theorem Num.ty{K:Frag}{mg:Str ->Option Value}{CN:Addr}(N:Num K mg CN){H:Hp}{n:Addr}{k s f p:V}(h:NumAt CN H n k s f p):TyE K H (.ref n) (.ref CN):=by
 obtain⟨dx,z⟩:=h
 exact .of (.ins z N.cl N.ca N.sn N.tk N.ob)
section
variable{P:Program}{w:World}{K:Frag}{mg:Str ->Option Value}{base:Heap}
noncomputable def A8r (CN:Addr):Sp:=fun vs H Q _=>∃(p dx:Addr) (k s f pw:V),vs=[.ref p,k,s,f,pw]/\H p=some (.ins CN dx [])/\∀H',H' p=some (.ins CN dx (A4e k s f pw)) ->(∀b o,H b=some o ->b≠p ->H' b=some o) ->Q .non H'
theorem B9h:FnScope ["self","kind","sign","figures","power"] ["self","kind","sign","figures","power"] (A6 A4w):=scK
theorem B6j{f CN:Addr}(F:Fun K "__init__" "Number.__init__" A4w f fd)(N:Num K mg CN):FnOk P w K mg base CX0 1 f fd ["self","kind","sign","figures","power"] (A8r CN):=by
 refine F.ok B9h (fun vs H Q E h=>?_) (fun cdv A outer s H vs Q E hr h=>?_)
 . obtain⟨p,dx,a,b,c,d,rfl,_⟩:=h
   rfl
 . obtain⟨p,dx,a,b,c,d,rfl,hp,k⟩:=h
   refine⟨_,A1 (A5f (pv 0) (pv 1) rfl) (A1 (A5f (pv 0) (pv 2) rfl) (A1 (A5f (pv 0) (pv 3) rfl) (A7 (A5f (pv 0) (pv 4) rfl)))),?_⟩
   have l:∀(fs:List (Str×V)) (f:Str) (v:V) (n:Nat),fs.length<=n ->(V9 f v fs).length<=n+1:=fun fs f v n h=>Nat.le_trans (A0g f v fs) (Nat.succ_le_succ h)
   refine⟨_,rfl,_,rfl,p,CN,dx,[],rfl,hp,N.cl,N.n1,(by show 0<1000;decide),?_⟩
   refine⟨_,rfl,_,rfl,p,CN,dx,_,rfl,A9,N.cl,N.n2,Nat.lt_of_le_of_lt (l _ _ _ 0 (Nat.le_refl _)) (by decide),?_⟩
   refine⟨_,rfl,_,rfl,p,CN,dx,_,rfl,A9,N.cl,N.n3,Nat.lt_of_le_of_lt (l _ _ _ 1 (l _ _ _ 0 (Nat.le_refl _))) (by decide),?_⟩
   refine⟨_,rfl,_,rfl,p,CN,dx,_,rfl,A9,N.cl,N.n4,Nat.lt_of_le_of_lt (l _ _ _ 2 (l _ _ _ 1 (l _ _ _ 0 (Nat.le_refl _)))) (by decide),?_⟩
   refine k _ A9 fun b o e hb=>?_
   rw[C8 hb,C8 hb,C8 hb,C8 hb]
   exact e
structure MakeN(P:Program)(w:World)(K:Frag)(mg:Str ->Option Value)(base:Heap)(CN fI:Addr)(fdI:FuncData):Prop where
 m:Mk K CN fI
 g:FnOk P w K mg base CX0 1 fI fdI ["self","kind","sign","figures","power"] (A8r CN)
 b:Binds K fdI ["self","kind","sign","figures","power"] []
theorem made{CN:Addr}{H:Hp}{Q:VK}{k s f p:V}(h:∀n H',H n=none ->Same H H' ->NumAt CN H' n k s f p ->Q (.ref n) H'):
   ∀x dx,H x=none ->H dx=none ->dx≠x ->A8r CN (.ref x::([k,s,f,p]++ [])) (upd (upd H dx (.own x)) x (.ins CN dx [])) (fun v H2=>v= .non/\Q (.ref x) H2) E0:=by
 intro x dx nx nd ne
 refine⟨x,dx,k,s,f,p,rfl,A9,fun H' e kp=>⟨rfl,h x H' nx (fun b o z=>?_) ⟨dx,e⟩⟩⟩
 refine kp b o ?_ (D9 z nx)
 rw[C8 (D9 z nx),C8 (D9 z nd)]
 exact z
noncomputable def A5t (K:Frag) (CN:Addr) (H:Hp) (v:V):Prop:=∃t,TyE K H v t/\kitOne K t (.ref CN)=some false
noncomputable def B0s (K:Frag) (CN CB:Addr):Sp:=fun vs H Q E=>∃v,vs=[v]/\((∃n k s f p,v= .ref n/\NumAt CN H n k s f p/\Q v H)\/(A5t K CN H v/\E (.ref CB) none H))
theorem B6n:FnScope ["thing"] ["thing"] (A6 A3k):=scK
theorem A6w{f CN CB:Addr}(D:Def K mg "need_number" ["thing"] A3k f fd)(O:Own mg)(T:Kit K)(B:Err K mg "BadNumber" CB)(N:Num K mg CN):FnOk P w K mg base (CX1 P w) 1 f fd ["thing"] (B0s K CN CB):=by
 refine D.F.okE B6n (fun vs H Q E h=>?_) (fun X cdv A outer s H vs Q E hX hr hx h=>?_)
 . obtain⟨v,rfl,_⟩:=h
   rfl
 . subst hX
   obtain⟨v,rfl,h⟩:=h
   refine⟨_,(A1 (G4 (V2 (G7 (A1g O.isi (pv 0) (B1p N.g)))) (A7 (Y4 (by rfl) B.g B.q PySem.F.excBase_ValueError hr.hd hx (A0 B1 A4))) C6)
     (A7 (B5 (pv 0)))),?_⟩
   rcases h with⟨n,a,b,c,d,rfl,hn,k⟩|⟨⟨t,ty,k1⟩,k⟩
   . exact⟨_,rfl,_,_,_,_,true,rfl,rfl,N.ty hn,N.self,_,rfl,U6 ⟨_,rfl,k⟩⟩
   . exact⟨_,rfl,_,_,_,t,false,rfl,rfl,ty,k1,_,rfl,Z9 ⟨Nat.le_of_lt (U8 (by show 1<=1000;decide)),k⟩⟩
noncomputable def B2x (K:Frag) (CN CB:Addr):Sp:=fun vs H Q E=>∃v,vs=[v]/\((∃n k s f p,v= .ref n/\NumAt CN H n k s f p/\∀t,H t=none ->Q (.ref t) (upd H t (.tup [k,s,f,p])))\/(A5t K CN H v/\E (.ref CB) none H))
theorem B9k:FnScope ["number"] ["number"] (A6 A9q):=scK
theorem B7c{f f1 CN CB:Addr}(D:Def K mg "told" ["number"] A9q f fd)(dA:Def K mg "need_number" ["thing"] A3k f1 fd1)(O:Own mg)(T:Kit K)(B:Err K mg "BadNumber" CB)(N:Num K mg CN):
   FnOk P w K mg base (CX1 P w) 2 f fd ["number"] (B2x K CN CB):=by
 have G_need_number:=A6w (P:=P) (w:=w) (base:=base) dA O T B N
 refine D.F.okE B9k (fun vs H Q E h=>?_) (fun X cdv A outer s H vs Q E hX hr hx h=>?_)
 . obtain⟨v,rfl,_⟩:=h
   rfl
 . subst hX
   obtain⟨v,rfl,h⟩:=h
   refine⟨_,(A1 (U5 (B8 dA G_need_number hr hx (A0 (pv 0) A4)))
     (A7 (B5 (U9 (A0 (G9 (pv 0) rfl) (A0 (G9 (pv 0) rfl) (A0 (G9 (pv 0) rfl) (A0 (G9 (pv 0) rfl) A4)))))))),?_⟩
   rcases h with⟨n,a,b,c,d,rfl,hn,k⟩|⟨bad,k⟩
   . refine⟨_,rfl,_,rfl,.inl ⟨n,a,b,c,d,rfl,hn,?_⟩⟩
     obtain⟨dx,e⟩:=hn
     exact⟨_,rfl,n,CN,dx,_,_,rfl,e,N.cl,N.n1,B9a _ _ _ _,_,rfl,n,CN,dx,_,_,rfl,e,N.cl,N.n2,C2b _ _ _ _,_,rfl,n,CN,dx,_,_,rfl,e,N.cl,N.n3,B6g _ _ _ _,_,rfl,n,CN,dx,_,_,rfl,e,N.cl,N.n4,B3s _ _ _ _,
       Nat.le_of_lt (U8 (by show 4<=1000;decide)),k⟩
   . exact⟨_,rfl,_,rfl,.inr ⟨bad,k⟩⟩
end
noncomputable abbrev A3m:Stmt:=(top 9)
noncomputable abbrev B2u:Stmt:=(top 10)
noncomputable abbrev Y2:Stmt:=(top 11)
section
variable{P:Program}{w:World}{K:Frag}{mg:Str ->Option Value}{base:Heap}
noncomputable def A5r (K:Frag) (CN CB:Addr):Sp:=fun vs H Q E=>∃x y z,vs=[x,y,z]/\
 ((A2m 0 1 x/\A2m 0 (10^60-1) y/\A2m (-200) 200 z/\∀n H',H n=none ->Same H H' ->NumAt CN H' n (.str "plain") x y z ->Q (.ref n) H')\/
  ((B1q K H 0 1 x\/(A2m 0 1 x/\(B1q K H 0 (10^60-1) y\/(A2m 0 (10^60-1) y/\B1q K H (-200) 200 z))))/\E (.ref CB) none H))
theorem B7h:FnScope ["sign","figures","power"] ["sign","figures","power"] (A6 A3m):=scK
theorem b01:A9e 0 1:=by unfold A9e;decide+kernel
theorem b60:A9e 0 (10^60-1):=by unfold A9e;decide+kernel
theorem C1d:A9e (-200) 200:=by unfold A9e;decide+kernel
theorem B2w{f f1 f2 fI CN CB:Addr}{fd fd1 fd2 fdI:FuncData}(D:Def K mg "plain" ["sign","figures","power"] A3m f fd)(dA:Def K mg "need_between" ["thing","least","most"] A0h f1 fd1)(D2:Def K mg "is_between" ["thing","least","most"] B1k f2 fd2)
   (O:Own mg) (T:Kit K) (B:Err K mg "BadNumber" CB) (N:Num K mg CN) (M:MakeN P w K mg base CN fI fdI):FnOk P w K mg base (CX1 P w) 3 f fd ["sign","figures","power"] (A5r K CN CB):=by
 have G_need_between:=A3j (P:=P) (w:=w) (base:=base) dA D2 O T B
 refine D.F.okE B7h (fun vs H Q E h=>?_) (fun X cdv A outer s H vs Q E hX hr hx h=>?_)
 . obtain⟨x,y,z,rfl,_⟩:=h
   rfl
 . subst hX
   obtain⟨x,y,z,rfl,h⟩:=h
   refine⟨_,(A1 (U5 (B8 dA G_need_between hr hx (A0 (pv 0) (A0 A3 (A0 A3 A4)))))
     (A1 (U5 (B8 dA G_need_between hr hx (A0 (pv 1) (A0 A3 (A0 (A8 V7 (A8 B9e A3 A3) A3) A4)))))
     (A1 (U5 (B8 dA G_need_between hr hx (A0 (pv 2) (A0 (A3p A0y A3) (A0 A3 A4)))))
     (A7 (B5 (A5m M.m M.g hr rfl N.g M.b .nil B3r (A0 B1 (A0 (pv 0) (A0 (pv 1) (A0 (pv 2) A4)))))))))),?_⟩
   have pw:C2k 10 60:=⟨by decide,by decide,by decide⟩
   rcases h with⟨⟨i1,rfl,l1,u1⟩,⟨i2,rfl,l2,u2⟩,⟨i3,rfl,l3,u3⟩,k⟩|⟨bad,k⟩
   . refine⟨_,rfl,_,_,_,rfl,b01,.inl ⟨⟨i1,rfl,l1,u1⟩,?_⟩⟩
     refine⟨_,rfl,_,_,rfl,rfl,pw,_,_,rfl,rfl,_,_,_,rfl,b60,.inl ⟨⟨i2,rfl,l2,u2⟩,?_⟩⟩
     refine⟨_,rfl,_,rfl,_,_,_,rfl,C1d,.inl ⟨⟨i3,rfl,l3,u3⟩,?_⟩⟩
     exact⟨_,rfl,_,rfl,_,rfl,made k⟩
   . rcases bad with bad|⟨⟨i1,rfl,l1,u1⟩,bad|⟨⟨i2,rfl,l2,u2⟩,bad⟩⟩
     . exact⟨_,rfl,_,_,_,rfl,b01,.inr ⟨bad,k⟩⟩
     . refine⟨_,rfl,_,_,_,rfl,b01,.inl ⟨⟨i1,rfl,l1,u1⟩,?_⟩⟩
       exact⟨_,rfl,_,_,rfl,rfl,pw,_,_,rfl,rfl,_,_,_,rfl,b60,.inr ⟨bad,k⟩⟩
     . refine⟨_,rfl,_,_,_,rfl,b01,.inl ⟨⟨i1,rfl,l1,u1⟩,?_⟩⟩
       refine⟨_,rfl,_,_,rfl,rfl,pw,_,_,rfl,rfl,_,_,_,rfl,b60,.inl ⟨⟨i2,rfl,l2,u2⟩,?_⟩⟩
       exact⟨_,rfl,_,rfl,_,_,_,rfl,C1d,.inr ⟨bad,k⟩⟩
noncomputable def B4a (K:Frag) (CN CB:Addr):Sp:=fun vs H Q E=>∃x,vs=[x]/\((A2m 0 1 x/\∀n H',H n=none ->Same H H' ->NumAt CN H' n (.str "end") x (.int 0) (.int 0) ->Q (.ref n) H')\/(B1q K H 0 1 x/\E (.ref CB) none H))
theorem C1m:FnScope ["sign"] ["sign"] (A6 B2u):=scK
theorem C0d{f f1 f2 fI CN CB:Addr}{fd fd1 fd2 fdI:FuncData}(D:Def K mg "end" ["sign"] B2u f fd)(dA:Def K mg "need_between" ["thing","least","most"] A0h f1 fd1)(D2:Def K mg "is_between" ["thing","least","most"] B1k f2 fd2)
   (O:Own mg) (T:Kit K) (B:Err K mg "BadNumber" CB) (N:Num K mg CN) (M:MakeN P w K mg base CN fI fdI):FnOk P w K mg base (CX1 P w) 3 f fd ["sign"] (B4a K CN CB):=by
 have G_need_between:=A3j (P:=P) (w:=w) (base:=base) dA D2 O T B
 refine D.F.okE C1m (fun vs H Q E h=>?_) (fun X cdv A outer s H vs Q E hX hr hx h=>?_)
 . obtain⟨x,rfl,_⟩:=h
   rfl
 . subst hX
   obtain⟨x,rfl,h⟩:=h
   refine⟨_,(A1 (U5 (B8 dA G_need_between hr hx (A0 (pv 0) (A0 A3 (A0 A3 A4)))))
     (A7 (B5 (A5m M.m M.g hr rfl N.g M.b .nil B3r (A0 B1 (A0 (pv 0) (A0 A3 (A0 A3 A4)))))))),?_⟩
   rcases h with⟨⟨i1,rfl,l1,u1⟩,k⟩|⟨bad,k⟩
   . refine⟨_,rfl,_,_,_,rfl,b01,.inl ⟨⟨i1,rfl,l1,u1⟩,?_⟩⟩
     exact⟨_,rfl,made k⟩
   . exact⟨_,rfl,_,_,_,rfl,b01,.inr ⟨bad,k⟩⟩
noncomputable def A0p (CN:Addr):Sp:=fun vs H Q _=>vs=[]/\∀n H',H n=none ->Same H H' ->NumAt CN H' n (.str "none") (.int 0) (.int 0) (.int 0) ->Q (.ref n) H'
theorem B1m:FnScope [] [] (A6 Y2):=scK
theorem A8v{f fI CN:Addr}{fd fdI:FuncData}(D:Def K mg "nothing" [] Y2 f fd)(N:Num K mg CN)(M:MakeN P w K mg base CN fI fdI):FnOk P w K mg base (CX1 P w) 3 f fd [] (A0p CN):=by
 refine D.F.okE B1m (fun vs H Q E h=>?_) (fun X cdv A outer s H vs Q E hX hr hx h=>?_)
 . obtain⟨rfl,_⟩:=h
   rfl
 . subst hX
   obtain⟨rfl,k⟩:=h
   refine⟨_,(A7 (B5 (A5m M.m M.g hr rfl N.g M.b .nil B3r (A0 B1 (A0 A3 (A0 A3 (A0 A3 A4))))))),?_⟩
   exact made k
end
noncomputable abbrev B0h:Stmt:=(top 13)
section
variable{P:Program}{w:World}{K:Frag}{mg:Str ->Option Value}{base:Heap}
noncomputable def B3m (CN:Addr):Sp:=fun vs H Q _=>∃n k s f p,vs=[.ref n]/\NumAt CN H n k s (.int f) (.int p)/\f.natAbs<2^300/\Q (.int (p+((Str.ofString (toString f)).length:Nat)-1)) H
theorem C0a:FnScope ["number"] ["number"] (A6 B0h):=scK
theorem B7b{f CN:Addr}(D:Def K mg "lead_of" ["number"] B0h f fd)(O:Own mg)(N:Num K mg CN):FnOk P w K mg base (CX1 P w) 1 f fd ["number"] (B3m CN):=by
 refine D.F.okE C0a (fun vs H Q E h=>?_) (fun X cdv A outer s H vs Q E hX hr hx h=>?_)
 . obtain⟨n,a,b,c,d,rfl,_⟩:=h
   rfl
 . subst hX
   obtain⟨n,a,b,fg,pw,rfl,⟨dx,e⟩,hf,k⟩:=h
   refine⟨_,(A7 (B5 (A8 V7 (A8 V1 (G9 (pv 0) rfl) (D3 D4 (by rfl) O.len_ PySem.boot_len (A0 (G3 Z1 (by rfl) O.str_ boot_str (A0 (G9 (pv 0) rfl) A4)) A4))) A3))),?_⟩
   have lg:fg.natAbs.log2<1920:=Nat.lt_trans (Z0 hf (by decide)) (by decide)
   exact⟨_,rfl,n,CN,dx,_,_,rfl,e,N.cl,N.n4,B3s _ _ _ _,_,rfl,n,CN,dx,_,_,rfl,e,N.cl,N.n3,B6g _ _ _ _,_,rfl,lg,_,rfl,int_text_fits lg,_,_,rfl,rfl,_,_,rfl,rfl,k⟩
end
inductive Kd where
 |plain|end_|none
noncomputable def Kd.str:Kd ->Str
 | .plain=>"plain"
 | .end_=>"end"
 | .none=>"none"
theorem Kd.str_inj{a b:Kd}(h:a.str=b.str):a=b:=by
 cases a<;>cases b<;>first|rfl|exact absurd h (by decide+kernel)
structure Nm where
 k:Kd
 s:Int
 f:Int
 p:Int
noncomputable def Nm.vs (x:Nm):List V:=[.str x.k.str,.int x.s,.int x.f,.int x.p]
structure Nm.Ok(x:Nm):Prop where
 s0:0<=x.s
 s1:x.s<=1
 f0:0<=x.f
 f1:x.f<=10^60-1
 p0: -200<=x.p
 p1:x.p<=200
noncomputable def NumIs (CN:Addr) (H:Hp) (n:Addr) (x:Nm):Prop:=NumAt CN H n (.str x.k.str) (.int x.s) (.int x.f) (.int x.p)
theorem NumIs.same{CN:Addr}{H H':Hp}{n:Addr}{x:Nm}(h:NumIs CN H n x)(e:Same H H'):NumIs CN H' n x:=NumAt.same h e
theorem neS{a b:Kd}(h:¬V.str a.str=V.str b.str):a≠b:=fun q=>h (by rw[q])
theorem eqS{a b:Kd}(h:V.str a.str=V.str b.str):a=b:=Kd.str_inj (by injection h)
noncomputable abbrev B0q:Stmt:=(top 31)
section
variable{P:Program}{w:World}{K:Frag}{mg:Str ->Option Value}{base:Heap}
noncomputable def B4j (K:Frag):Sp:=fun vs H Q _=>∃a ns k,vs=[.ref a,.int k]/\SqL K H a ((ns:List Int).map V.int)/\0<=k/\∀i,Q (.int i) H
theorem B8u:FnScope ["_law_script","_law_k"] ["_law_script","_law_k"] (A6 B0q):=scK
theorem B6e(D:Def K mg "_law_cell_at" ["_law_script","_law_k"] B0q f fd)(O:Own mg):FnOk P w K mg base (CX1 P w) 1 f fd ["_law_script","_law_k"] (B4j K):=by
 refine FnOk.up (D.F.ok B8u (fun vs H Q E h=>?_) (fun cdv A outer s H vs Q E hr h=>?_))
 . obtain⟨a,ns,k,rfl,_⟩:=h
   rfl
 . obtain⟨a,ns,i,rfl,hs,h0,k⟩:=h
   refine⟨_,(A1 (G4 (B9 A6r (pv 1) (D3 A1k (by rfl) O.len_ PySem.boot_len (A0 (pv 0) A4)) (B7 _)) (A7 (B5 (J9 A1q (pv 0) (pv 1) (fun _ _=>rfl)))) C6)
     (A7 (B5 A3))),?_⟩
   refine⟨_,rfl,_,rfl,a,_,rfl,.inl hs,_,_,rfl,rfl,_,rfl,?_⟩
   refine U4 (fun hlt=>?_) (fun _=>k 0)
   rw[List.length_map] at hlt
   obtain⟨j,rfl⟩:=Int.eq_ofNat_of_zero_le h0
   have hj:j<ns.length:=by omega
   exact⟨_,rfl,_,rfl,a,_,_,_,rfl,rfl,hs,G0 (v:=V.int ns[j]) (by simp[hj]),k _⟩
end
noncomputable abbrev A3t:Stmt:=(top 32)
section
variable{P:Program}{w:World}{K:Frag}{mg:Str ->Option Value}{base:Heap}
noncomputable def B0u:Sp:=fun vs H Q _=>∃c k,vs=[.int c,.int k]/\0<=k/\k<=100/\∀m,0<=m ->m<2147483629 ->Q (.int m) H
theorem B7w:FnScope ["_law_cell","_law_k"] ["_law_cell","_law_k"] (A6 A3t):=scK
theorem A6z(D:Def K mg "_law_mixed" ["_law_cell","_law_k"] A3t f fd):FnOk P w K mg base (CX1 P w) 1 f fd ["_law_cell","_law_k"] B0u:=by
 refine FnOk.up (D.F.ok B7w (fun vs H Q E h=>?_) (fun cdv A outer s H vs Q E hr h=>?_))
 . obtain⟨c,k,rfl,_⟩:=h
   rfl
 . obtain⟨c,i,rfl,h0,h1,k⟩:=h
   refine⟨_,(A7 (B5 (A8 D6 (A8 J0 (A8 D6 (A8 V1 (A8 V1 (A8 J0 (pv 0) (A8 V1 A3 (A8 J0 (A8 J0 A3 (pv 1)) (pv 1)))) (A8 J0 A3 (pv 1))) A3) A3) A3) A3))),?_⟩
   have q0:(0:Int)<=2*i*i:=Int.mul_nonneg (by omega) h0
   have q1:2*i*i<=200*100:=Int.mul_le_mul (by omega) h1 h0 (by decide)
   have m1:IntMulOk 2 i:=CMul.ok (.inl ⟨by decide,by decide⟩)
   have m2:IntMulOk (2*i) i:=CMul.ok (.inr ⟨by omega,by omega⟩)
   have m3:IntMulOk c (48271+2*i*i):=CMul.ok (.inr ⟨by omega,by omega⟩)
   have m4:IntMulOk 69621 i:=CMul.ok (.inl ⟨by decide,by decide⟩)
   have m5:∀z:Int,IntMulOk z 69621:=fun z=>CMul.ok (.inr ⟨by decide,by decide⟩)
   refine⟨_,rfl,_,rfl,_,_,rfl,rfl,m1,_,rfl,_,_,rfl,rfl,m2,_,_,rfl,rfl,_,_,rfl,rfl,m3,_,rfl,_,_,rfl,rfl,m4,_,_,rfl,rfl,_,_,rfl,rfl,_,_,rfl,rfl,(by show(0:Int)<2147483647;decide),_,_,rfl,rfl,m5 _,_,_,rfl,rfl,(by show(0:Int)<2147483629;decide),?_⟩
   exact k _ (Int.emod_nonneg _ (by decide)) (Int.emod_lt_of_pos _ (by decide))
end
noncomputable abbrev A1p:Stmt:=(top 23)
noncomputable abbrev A1c:Stmt:=(top 24)
noncomputable abbrev A2y:Stmt:=(top 29)
noncomputable abbrev A0e:Stmt:=(top 28)
noncomputable abbrev A1h:Stmt:=(top 26)
noncomputable abbrev Z3:Stmt:=(top 27)
noncomputable def A0x (z:Str):Bool:=Txt.startswith z "-"
noncomputable def A7q (z:Str):Bool:=Txt.startswith z "+"||Txt.startswith z "-"
noncomputable def bare (z:Str):Str:=if A7q z=true then A2s z (some 1) none else z
noncomputable def A1j (z:Str):Bool:= !(decide (z=""))&&decide (Txt.stripChars z "0123456789"="")
noncomputable def A4f (z:Str):Int:=((PySem.NumText.digitsVal z.cps.toList:Nat):Int)
noncomputable def A4h (z:Str):Option Int:=if A1j z=true then(if(Txt.lstripChars z "0").length>60 then none else some (A4f z)) else none
noncomputable def shR (z:Str):Option Int:=if A1j (bare z)=true then(if(bare z).length>3 then none else some (if A0x z=true then -A4f (bare z) else A4f (bare z))) else none
theorem B5z:("":Str)=S []:=by decide+kernel
theorem C3e:("0123456789":Str)=S digS:=by decide+kernel
theorem B3j:("0":Str)=S [48]:=by decide+kernel
theorem litM:("-":Str)=S [45]:=by decide+kernel
theorem B6v:("+":Str)=S [43]:=by decide+kernel
theorem litE:("e":Str)=S [101]:=by decide+kernel
theorem Z7:(".":Str)=S [46]:=by decide+kernel
theorem A1f(l:List Nat):A1j (S l)=true↔l≠ []/\PySem.NumText.AllDigits l:=by
 unfold A1j
 rw[B5z,C3e,Bool.and_eq_true,Bool.not_eq_true',decide_eq_false_iff_not,decide_eq_true_iff,A9g]
 constructor
 . rintro⟨h1,h2⟩
   exact⟨fun z=>h1 (by rw[z]),fun c hc=>(A7j c).mp (h2 c hc)⟩
 . rintro⟨h1,h2⟩
   exact⟨fun z=>h1 (A6u z),fun c hc=>(A7j c).mpr (h2 c hc)⟩
theorem A3n(z:Str):(bare z).length<=z.length:=by
 unfold bare
 split
 . rename_i h
   rw[<-A2r z] at h ⊢
   generalize z.cps.toList=l at*
   have hl:1<=l.length:=by
     cases l with
     | nil=>
       unfold A7q at h
       rw[B6v,litM,A0d,A0d] at h
       cases h
     |cons a t=>exact Nat.succ_le_succ (Nat.zero_le _)
   have e:=A0a l 1 hl
   rw[show((1:Nat):Int)=1 from rfl] at e
   rw[e,B0,B0,List.length_drop]
   omega
 . exact Nat.le_refl _
section
variable{P:Program}{w:World}{K:Frag}{mg:Str ->Option Value}{base:Heap}
noncomputable def A3d:Sp:=fun vs H Q _=>∃z:Str,vs=[.str z]/\Q (.int (if A0x z=true then 1 else 0)) H
theorem B3t:FnScope ["word"] ["word"] (A6 A1p):=scK
theorem B1z(D:Def K mg "sign_of" ["word"] A1p f fd):FnOk P w K mg base (CX1 P w) 1 f fd ["word"] A3d:=by
 refine D.F.okE B3t (fun vs H Q E h=>?_) (fun X cdv A outer s H vs Q E hX hr hx h=>?_)
 . obtain⟨z,rfl,_⟩:=h
   rfl
 . subst hX
   obtain⟨z,rfl,k⟩:=h
   refine⟨_,(A7 (B5 (J1 (G7 (A2n PySem.F.plainAttrs_str PySem.F.slot_str_startswith PySem.F.type_str_startswith B1f (pv 0) (A0 B1 A4))) A3 A3))),?_⟩
   refine⟨_,rfl,rfl,z,_,rfl,rfl,_,rfl,?_⟩
   unfold A0x at k
   cases hb:Txt.startswith z "-" with
   |true=>rw[hb] at k;exact Z9 k
   |false=>rw[hb] at k;exact U6 k
noncomputable def A4c:Sp:=fun vs H Q _=>∃z:Str,vs=[.str z]/\z.length<=1000/\∀H',Same H H' ->Q (.str (bare z)) H'
theorem B4n:FnScope ["word"] ["word"] (A6 A1c):=scK
theorem B1r(D:Def K mg "without_sign" ["word"] A1c f fd):FnOk P w K mg base (CX1 P w) 1 f fd ["word"] A4c:=by
 refine D.F.okE B4n (fun vs H Q E h=>?_) (fun X cdv A outer s H vs Q E hX hr hx h=>?_)
 . obtain⟨z,rfl,_⟩:=h
   rfl
 . subst hX
   obtain⟨z,rfl,hz,k⟩:=h
   have z2:2<=sizeLine:=A2 (by decide)
   refine⟨_,(A7 (B5 (J1 (G7 (A2n PySem.F.plainAttrs_str PySem.F.slot_str_startswith PySem.F.type_str_startswith A8m (pv 0) (A0 (U9 (A0 B1 (A0 B1 A4))) A4))) (U2 A0v (pv 0) (V4 A3) V6) (pv 0)))),?_⟩
   refine⟨_,rfl,rfl,z2,fun p np=>⟨z,p,_,_,rfl,rfl,A9,_,rfl,?_⟩⟩
   have k:=k _ (Same.upd (o:= .tup [.str "+",.str "-"]) np)
   have bl:=A3n z
   unfold bare A7q at k bl
   cases hb:(Txt.startswith z "+"||Txt.startswith z "-") with
   | true=>
     rw[hb,if_pos rfl] at k bl
     exact Z9 ⟨_,rfl,1,rfl,z,rfl,A2 (Nat.le_trans bl hz),k⟩
   | false=>
     rw[hb,if_neg Bool.false_ne_true] at k
     exact U6 ⟨_,rfl,k⟩
noncomputable def B4e:Sp:=fun vs H Q _=>∃z:Str,vs=[.str z]/\z.length<=1000/\Q (.bl (A1j z)) H
theorem B2z:FnScope ["digits"] ["digits"] (A6 A2y):=scK
theorem B2h(D:Def K mg "are_figures" ["digits"] A2y f fd):FnOk P w K mg base (CX1 P w) 1 f fd ["digits"] B4e:=by
 refine D.F.okE B2z (fun vs H Q E h=>?_) (fun X cdv A outer s H vs Q E hX hr hx h=>?_)
 . obtain⟨z,rfl,_⟩:=h
   rfl
 . subst hX
   obtain⟨z,rfl,hz,k⟩:=h
   refine⟨_,(A7 (B5 (A3c (U0 A7k (pv 0) B1 (B7 _)) (A3g (U0 U1 (A2n PySem.F.plainAttrs_str PySem.F.slot_str_strip PySem.F.type_str_strip A6n (pv 0) (A0 B1 A4)) B1 (B7 _)))))),?_⟩
   refine⟨_,rfl,rfl,_,rfl,?_⟩
   have ev:∀a b:Str,decide (V.str a=V.str b)=decide (a=b):=fun a b=>decide_eq_decide.mpr ⟨fun z=>by injection z,fun z=>by rw[z]⟩
   unfold A1j at k
   rw[ev]
   cases hb:decide (z="") with
   | true=>
     rw[hb] at k
     exact U6 k
   | false=>
     rw[hb] at k
     refine Z9 ⟨_,rfl,rfl,z,_,rfl,rfl,A2 hz,rfl,?_⟩
     rw[ev]
     exact k
noncomputable def A1x (CB:Addr):Sp:=fun vs H Q E=>∃z:Str,vs=[.str z]/\z.length<=1000/\((A1j z=true/\Q .non H)\/(A1j z=false/\E (.ref CB) none H))
theorem B2f:FnScope ["digits"] ["digits"] (A6 A0e):=scK
theorem A8b{f f1 CB:Addr}(D:Def K mg "need_figures" ["digits"] A0e f fd)(dA:Def K mg "are_figures" ["digits"] A2y f1 fd1)(B:Err K mg "NoText" CB):FnOk P w K mg base (CX1 P w) 2 f fd ["digits"] (A1x CB):=by
 have G_are_figures:=B2h (P:=P) (w:=w) (base:=base) dA
 refine D.F.okE B2f (fun vs H Q E h=>?_) (fun X cdv A outer s H vs Q E hX hr hx h=>?_)
 . obtain⟨z,rfl,_⟩:=h
   rfl
 . subst hX
   obtain⟨z,rfl,hz,h⟩:=h
   refine⟨_,(A7 (G4 (V2 (G7 (B8 dA G_are_figures hr hx (A0 (pv 0) A4)))) (A7 (Y4 (by rfl) B.g B.q PySem.F.excBase_ValueError hr.hd hx (A0 B1 A4))) C6)),?_⟩
   rcases h with⟨hb,k⟩|⟨hb,k⟩
   . refine⟨_,rfl,z,rfl,hz,?_⟩
     rw[hb]
     exact⟨_,rfl,U6 k⟩
   . refine⟨_,rfl,z,rfl,hz,?_⟩
     rw[hb]
     exact⟨_,rfl,Z9 ⟨A2 (by show 1<=1000;decide),k⟩⟩
theorem A8k(z:Str):(Txt.lstripChars z "0").length<=z.length:=by
 rw[<-A2r z,B3j,A1n,B0,B0]
 exact(List.dropWhile_suffix _).length_le
theorem C2y{z:Str}(h:A1j z=true)(hl:(Txt.lstripChars z "0").length<=60):PySem.intText? (("0":Str)++Txt.lstripChars z "0")=some (A4f z):=by
 unfold A4f
 rw[<-A2r z] at h hl ⊢
 generalize z.cps.toList=l at*
 have d:=((A1f l).mp h).2
 rw[B3j,A1n] at hl ⊢
 rw[B0] at hl
 rw[D0,G8]
 have e:PySem.NumText.digitsVal (S ([48]++l.dropWhile ([48]:List Nat).contains)).cps.toList=PySem.NumText.digitsVal l:=by
   rw[G8]
   exact(A2a 1 _).trans (A7t l)
 rw[<-e]
 refine PySem.intText_digits ?_ ?_ ?_
 . rw[G8]
   intro c hc
   rcases List.mem_append.mp hc with hc|hc
   . rw[List.mem_singleton.mp hc]
     decide
   . exact d c ((List.dropWhile_suffix _).mem hc)
 . rw[G8]
   exact fun z=>nomatch z
 . rw[B0,List.length_append]
   show 1+_<=4300
   omega
noncomputable def A4x (CB:Addr):Sp:=fun vs H Q E=>∃z:Str,vs=[.str z]/\z.length<=1000/\((∃n,A4h z=some n/\Q (.int n) H)\/(A4h z=none/\E (.ref CB) none H))
theorem scFigRead:FnScope ["digits","counted"] ["digits"] (A6 A1h):=scK
theorem A8p{f f1 CB:Addr}(D:Def K mg "figures_read" ["digits"] A1h f fd)(dA:Def K mg "need_figures" ["digits"] A0e f1 fd1)(dB:FnOk P w K mg base (CX1 P w) 2 f1 fd1 ["digits"] (A1x CB))(B:Err K mg "NoText" CB)(O:Own mg):FnOk P w K mg base (CX1 P w) 3 f fd ["digits"] (A4x CB):=by
 refine D.F.okE scFigRead (fun vs H Q E h=>?_) (fun X cdv A outer s H vs Q E hX hr hx h=>?_)
 . obtain⟨z,rfl,_⟩:=h
   rfl
 . subst hX
   obtain⟨z,rfl,hz,h⟩:=h
   refine⟨_,(A1 (A5 (U5 (B8 dA dB hr hx (A0 (pv 0) A4))))
     (A1 (A5 (B4 (i:=1) scFigRead.nd rfl (Or.inl rfl) (A2n PySem.F.plainAttrs_str PySem.F.slot_str_lstrip PySem.F.type_str_lstrip B1b (pv 0) (A0 B1 A4))))
     (A1 (A5 (G4 (B9 A4b (D3 D4 (by rfl) O.len_ PySem.boot_len (A0 (pv 1) A4)) A3 (B7 _)) (A7 (A5 (Y4 (by rfl) B.g B.q PySem.F.excBase_ValueError hr.hd hx (A0 B1 A4)))) C6))
     (A7 (B5 (G3 Y0 (by rfl) O.int_ boot_int (A0 (A8 B3 B1 (pv 1)) A4))))))),?_⟩
   unfold A4h at h
   by_cases hb:A1j z=true
   . rw[if_pos hb] at h
     refine⟨fun σ' H'=>H'=H/\σ'=[some (.str z),none],⟨_,rfl,z,rfl,hz,.inl ⟨hb,rfl,rfl⟩⟩,?_⟩
     rintro σ' H1 ⟨rfl,rfl⟩
     refine⟨fun σ' H'=>H'=H1/\σ'=[some (.str z),some (.str (Txt.lstripChars z "0"))],⟨_,rfl,rfl,z,_,rfl,rfl,A2 hz,rfl,rfl⟩,?_⟩
     rintro σ' H2 ⟨rfl,rfl⟩
     have sl:=A8k z
     by_cases hl:(Txt.lstripChars z "0").length>60
     . rw[if_pos hl] at h
       rcases h with⟨n,e,_⟩|⟨_,k⟩
       . cases e
       . exact⟨fun _ _=>False,⟨_,rfl,_,rfl,A2 (by omega),_,_,rfl,rfl,_,rfl,A7d (show(60:Int)<((Txt.lstripChars z "0").length:Int) by omega) ⟨fun _ _=>False,⟨A2 (by show 1<=1000;decide),k⟩,fun _ _ h=>h.elim⟩⟩,fun _ _ h=>h.elim⟩
     . rw[if_neg hl] at h
       rcases h with⟨n,e,k⟩|⟨e,_⟩
       . obtain rfl:=Option.some.inj e
         have l1:("0":Str).length=1:=by decide+kernel
         refine⟨fun σ' H'=>H'=H2/\σ'=[some (.str z),some (.str (Txt.lstripChars z "0"))],⟨_,rfl,_,rfl,A2 (by omega),_,_,rfl,rfl,_,rfl,A9z (show¬(60:Int)<((Txt.lstripChars z "0").length:Int) by omega) ⟨rfl,rfl⟩⟩,?_⟩
         rintro σ' H3 ⟨rfl,rfl⟩
         exact⟨_,rfl,_,_,rfl,rfl,A2 (by rw[l1];omega),_,_,rfl,C2y hb (by omega),by rw[strLen_append,l1];omega,k⟩
       . cases e
   . rw[if_neg hb] at h
     rcases h with⟨n,e,_⟩|⟨_,k⟩
     . cases e
     . exact⟨fun _ _=>False,⟨_,rfl,z,rfl,hz,.inr ⟨by cases q:A1j z with|true=>exact absurd q hb|false=>rfl,k⟩⟩,fun _ _ h=>h.elim⟩
theorem C1u{z:Str}(h:A1j z=true)(hl:z.length<=640):PySem.intText? z=some (A4f z):=by
 unfold A4f
 rw[<-A2r z] at h hl ⊢
 generalize z.cps.toList=l at*
 obtain⟨n,d⟩:=(A1f l).mp h
 rw[B0] at hl
 exact PySem.intText_digits (by rw[G8];exact d) (by rw[G8];exact n) (by rw[B0];omega)
noncomputable def A2p (CB:Addr):Sp:=fun vs H Q E=>∃z:Str,vs=[.str z]/\z.length<=1000/\((∃n,shR z=some n/\∀H',Same H H' ->Q (.int n) H')\/(shR z=none/\∀H',Same H H' ->E (.ref CB) none H'))
theorem scShiftRead:FnScope ["tail","digits"] ["tail"] (A6 Z3):=scK
theorem A5p{f f1 f2 f3 CB:Addr}(D:Def K mg "shift_read" ["tail"] Z3 f fd)(dA:Def K mg "need_figures" ["digits"] A0e f1 fd1)(dB:FnOk P w K mg base (CX1 P w) 2 f1 fd1 ["digits"] (A1x CB))(dC:Def K mg "without_sign" ["word"] A1c f2 fd2)(dD:FnOk P w K mg base (CX1 P w) 1 f2 fd2 ["word"] A4c)(dE:Def K mg "sign_of" ["word"] A1p f3 fd3)(dF:FnOk P w K mg base (CX1 P w) 1 f3 fd3 ["word"] A3d)(B:Err K mg "NoText" CB)(O:Own mg):FnOk P w K mg base (CX1 P w) 3 f fd ["tail"] (A2p CB):=by
 refine D.F.okE scShiftRead (fun vs H Q E h=>?_) (fun X cdv A outer s H vs Q E hX hr hx h=>?_)
 . obtain⟨z,rfl,_⟩:=h
   rfl
 . subst hX
   obtain⟨z,rfl,hz,h⟩:=h
   refine⟨_,(A1 (A5 (B4 (i:=1) scShiftRead.nd rfl (Or.inl rfl) (B8 dC dD hr hx (A0 (pv 0) A4))))
     (A1 (A5 (U5 (B8 dA dB hr hx (A0 (pv 1) A4))))
     (A1 (A5 (G4 (B9 A4b (D3 D4 (by rfl) O.len_ PySem.boot_len (A0 (pv 1) A4)) A3 (B7 _)) (A7 (A5 (Y4 (by rfl) B.g B.q PySem.F.excBase_ValueError hr.hd hx (A0 B1 A4)))) C6))
     (A7 (B5 (J1 (B9 U1 (B8 dE dF hr hx (A0 (pv 0) A4)) A3 (B7 _)) (A3p A0y (G3 Y0 (by rfl) O.int_ boot_int (A0 (pv 1) A4))) (G3 Y0 (by rfl) O.int_ boot_int (A0 (pv 1) A4)))))))),?_⟩
   have bl:=A3n z
   refine⟨fun σ' H'=>Same H H'/\σ'=[some (.str z),some (.str (bare z))],⟨_,rfl,z,rfl,hz,fun H' s'=>⟨s',rfl⟩⟩,?_⟩
   rintro σ' H1 ⟨s1,rfl⟩
   unfold shR at h
   by_cases hb:A1j (bare z)=true
   . rw[if_pos hb] at h
     refine⟨fun σ' H'=>H'=H1/\σ'=[some (.str z),some (.str (bare z))],⟨_,rfl,_,rfl,by omega,.inl ⟨hb,rfl,rfl⟩⟩,?_⟩
     rintro σ' H2 ⟨rfl,rfl⟩
     by_cases hl:(bare z).length>3
     . rw[if_pos hl] at h
       rcases h with⟨n,e,_⟩|⟨_,k⟩
       . cases e
       . exact⟨fun _ _=>False,⟨_,rfl,_,rfl,A2 (by omega),_,_,rfl,rfl,_,rfl,A7d (show(3:Int)<((bare z).length:Int) by omega) ⟨fun _ _=>False,⟨A2 (by show 1<=1000;decide),k _ s1⟩,fun _ _ h=>h.elim⟩⟩,fun _ _ h=>h.elim⟩
     . rw[if_neg hl] at h
       rcases h with⟨n,e,k⟩|⟨e,_⟩
       . obtain rfl:=Option.some.inj e
         refine⟨fun σ' H'=>H'=H2/\σ'=[some (.str z),some (.str (bare z))],⟨_,rfl,_,rfl,A2 (by omega),_,_,rfl,rfl,_,rfl,A9z (show¬(3:Int)<((bare z).length:Int) by omega) ⟨rfl,rfl⟩⟩,?_⟩
         rintro σ' H3 ⟨rfl,rfl⟩
         have k:=k _ s1
         refine⟨_,rfl,z,rfl,rfl,_,rfl,?_⟩
         cases hm:A0x z with
         | true=>
           rw[hm,if_pos rfl] at k
           exact A7d rfl ⟨_,rfl,_,_,rfl,C1u hb (by omega),by omega,_,rfl,k⟩
         | false=>
           rw[hm,if_neg Bool.false_ne_true] at k
           exact A9z (by intro q;cases q) ⟨_,rfl,_,_,rfl,C1u hb (by omega),by omega,k⟩
       . cases e
   . rw[if_neg hb] at h
     rcases h with⟨n,e,_⟩|⟨_,k⟩
     . cases e
     . exact⟨fun _ _=>False,⟨_,rfl,_,rfl,by omega,.inr ⟨by cases q:A1j (bare z) with|true=>exact absurd q hb|false=>rfl,k _ s1⟩⟩,fun _ _ h=>h.elim⟩
end
noncomputable abbrev Y6:Stmt:=(top 25)
noncomputable abbrev A9u:Stmt:=(top 22)
noncomputable abbrev ptE (z:Str):Str×Str×Str:=Txt.partition z "e"
noncomputable abbrev ptD (z:Str):Str×Str×Str:=Txt.partition z "."
noncomputable def plR (z:Str):Option (Int×Int):=(A4h ((ptD (ptE z).1).1++(ptD (ptE z).1).2.2)).bind fun f=>(if(ptE z).2.1="e" then shR (ptE z).2.2 else some 0).map fun s=>(f,s-((ptD (ptE z).1).2.2.length:Nat))
theorem B0d(z:Str)(i j:Nat):(Builtin.Str.strSub z i j).length<=z.length:=by
 rw[<-A2r z,A6q,B0,B0,List.length_drop]
 have:=List.length_take_le' j z.cps.toList
 omega
theorem A7r(z y:Str):(Txt.partition z y).1.length<=z.length/\(Txt.partition z y).2.2.length<=z.length:=by
 unfold Txt.partition
 split
 . exact⟨B0d _ _ _,B0d _ _ _⟩
 . exact⟨Nat.le_refl _,Nat.zero_le _⟩
theorem B1c(z y:Str):(Txt.stripChars z y).length<=z.length:=by
 rw[<-A2r z, <-A2r y,A5u,B0,B0,List.length_reverse]
 have a:=(List.dropWhile_suffix (l:=(z.cps.toList.dropWhile y.cps.toList.contains).reverse) y.cps.toList.contains).length_le
 have b:=(List.dropWhile_suffix (l:=z.cps.toList) y.cps.toList.contains).length_le
 rw[List.length_reverse] at a
 omega
theorem B2g{z:Str}{n:Int}(h:A4h z=some n):0<=n/\n<=10^60-1:=by
 unfold A4h at h
 split at h
 . rename_i hb
   split at h
   . cases h
   . rename_i hl
     obtain rfl:=Option.some.inj h
     unfold A4f
     rw[<-A2r z] at hb hl ⊢
     generalize z.cps.toList=l at*
     rw[G8,B3j,A1n,B0] at*
     rw[<-A7t l]
     have lt:∀m:List Nat,PySem.NumText.AllDigits m ->PySem.NumText.digitsVal m<10^m.length:=by
       intro m
       induction m with
       |nil=>intro _;decide
       | cons c t ih=>
         intro hd
         have h1:=hd.head
         have h2:=ih hd.tail
         rw[show c::t=[c]++t from rfl,A5d,List.length_append]
         show(0*10+(c-48))*10^t.length+_<10^(1+t.length)
         rw[Nat.pow_add,Nat.zero_mul,Nat.zero_add]
         have:(c-48)*10^t.length<=9*10^t.length:=Nat.mul_le_mul_right _ (by omega)
         omega
     have d:=((A1f l).mp hb).2
     have:=lt (l.dropWhile ([48]:List Nat).contains) fun c hc=>d c ((List.dropWhile_suffix _).mem hc)
     have p:10^(l.dropWhile ([48]:List Nat).contains).length<=10^60:=Nat.pow_le_pow_right (by decide) (by omega)
     have e60:((10^60:Nat):Int)=10^60:=by decide+kernel
     omega
 . cases h
section
variable{P:Program}{w:World}{K:Frag}{mg:Str ->Option Value}{base:Heap}
noncomputable def A2j (CN:Addr):Sp:=fun vs H Q _=>∃s:Int,∃z:Str,∃f p:Int,vs=[.int s,.str z]/\0<=s/\s<=1/\z.length<=400/\plR z=some (f,p)/\ -200<=p/\p<=200/\∀n H',H n=none ->Same H H' ->NumIs CN H' n ⟨.plain,s,f,p⟩ ->Q (.ref n) H'
theorem scPlainRead:FnScope ["sign","body","parts","halves","figures","shift"] ["sign","body"] (A6 Y6):=scK
theorem A5v{f f1 f2 f3 CN CB CB':Addr}(D:Def K mg "plain_read" ["sign","body"] Y6 f fd)(dA:Def K mg "figures_read" ["digits"] A1h f1 fd1)(dB:FnOk P w K mg base (CX1 P w) 3 f1 fd1 ["digits"] (A4x CB))(dC:Def K mg "shift_read" ["tail"] Z3 f2 fd2)(dD:FnOk P w K mg base (CX1 P w) 3 f2 fd2 ["tail"] (A2p CB))
   (dE:Def K mg "plain" ["sign","figures","power"] A3m f3 fd3) (dF:FnOk P w K mg base (CX1 P w) 3 f3 fd3 ["sign","figures","power"] (A5r K CN CB')) (O:Own mg):FnOk P w K mg base (CX1 P w) 4 f fd ["sign","body"] (A2j CN):=by
 refine D.F.okE scPlainRead (fun vs H Q E h=>?_) (fun X cdv A outer s H vs Q E hX hr hx h=>?_)
 . obtain⟨s,z,f,p,rfl,_⟩:=h
   rfl
 . subst hX
   obtain⟨sg,z,fg,pw,rfl,s0,s1,hz,hR,p0,p1,k⟩:=h
   refine⟨_,(A1 (A5 (B4 (i:=2) scPlainRead.nd rfl (Or.inl rfl) (A2n PySem.F.plainAttrs_str PySem.F.slot_str_partition PySem.F.type_str_partition A9x (pv 1) (A0 B1 A4))))
     (A1 (A5 (B4 (i:=3) scPlainRead.nd rfl (Or.inl rfl) (A2n PySem.F.plainAttrs_str PySem.F.slot_str_partition PySem.F.type_str_partition A9x (J9 A0w (pv 2) A3 (fun _ _=>rfl)) (A0 B1 A4))))
     (A1 (A5 (B4 (i:=4) scPlainRead.nd rfl (Or.inl rfl) (B8 dA dB hr hx (A0 (A8 B3 (J9 A0w (pv 3) A3 (fun _ _=>rfl)) (J9 A0w (pv 3) A3 (fun _ _=>rfl))) A4))))
     (A1 (A5 (B4 (i:=5) scPlainRead.nd rfl (Or.inl rfl) (J1 (B9 U1 (J9 A0w (pv 2) A3 (fun _ _=>rfl)) B1 (B7 _)) (B8 dC dD hr hx (A0 (J9 A0w (pv 2) A3 (fun _ _=>rfl)) A4)) A3)))
     (A7 (A5 (B6u (fun pins Ew EHb hc=>(A7 (B5 (B8 dE dF hr hc (A0 (pv 0) (A0 (pv 4) (A0 (A8 V7 (pv 5) (D3 D4 (by rfl) O.len_ PySem.boot_len (A0 (J9 (B6t (K:=K) rfl) (pv 3) A3 (fun _ _=>rfl)) A4))) A4)))))))))))))),?_⟩
   have l1:(ptE z).1.length<=z.length/\(ptE z).2.2.length<=z.length:=A7r z "e"
   have l2:(ptD (ptE z).1).1.length<=(ptE z).1.length/\(ptD (ptE z).1).2.2.length<=(ptE z).1.length:=A7r (ptE z).1 "."
   have y1:(("e":Str).length==0)=false:=by decide+kernel
   have y2:((".":Str).length==0)=false:=by decide+kernel
   obtain⟨sh,hF,hS,ep⟩:∃sh,A4h ((ptD (ptE z).1).1++(ptD (ptE z).1).2.2)=some fg/\(if(ptE z).2.1="e" then shR (ptE z).2.2 else some 0)=some sh/\pw=sh-((ptD (ptE z).1).2.2.length:Nat):=by
     unfold plR at hR
     cases e1:A4h ((ptD (ptE z).1).1++(ptD (ptE z).1).2.2) with
     |none=>rw[e1] at hR;cases hR
     | some f1=>
       rw[e1] at hR
       cases e2:(if(ptE z).2.1="e" then shR (ptE z).2.2 else some 0) with
       |none=>rw[e2] at hR;cases hR
       | some s1=>
         rw[e2] at hR
         have q:=Option.some.inj hR
         exact⟨s1,by rw[<-(Prod.mk.inj q).1],rfl,(Prod.mk.inj q).2.symm⟩
   have fr:=B2g hF
   refine⟨fun σ' H'=>∃q,Same H H'/\H' q=some (.tup [.str (ptE z).1,.str (ptE z).2.1,.str (ptE z).2.2])/\σ'=[some (.int sg),some (.str z),some (.ref q),none,none,none],⟨_,rfl,rfl,z,_,rfl,rfl,y1,A2 (by omega),fun q nq=>⟨q,Same.upd nq,A9,rfl⟩⟩,?_⟩
   rintro σ' H1 ⟨q,s1',e1,rfl⟩
   refine⟨fun σ' H'=>∃r,Same H1 H'/\H' r=some (.tup [.str (ptD (ptE z).1).1,.str (ptD (ptE z).1).2.1,.str (ptD (ptE z).1).2.2])/\σ'=[some (.int sg),some (.str z),some (.ref q),some (.ref r),none,none],⟨_,rfl,q,_,_,_,rfl,rfl,SqT.of e1,G0 (j:=0) rfl,rfl,_,_,rfl,rfl,y2,A2 (by omega),fun r nr=>⟨r,Same.upd nr,A9,rfl⟩⟩,?_⟩
   rintro σ' H2 ⟨r,s2,e2,rfl⟩
   have e1:=s2 _ _ e1
   refine⟨fun σ' H'=>H'=H2/\σ'=[some (.int sg),some (.str z),some (.ref q),some (.ref r),some (.int fg),none],⟨_,rfl,r,_,_,_,rfl,rfl,SqT.of e2,G0 (j:=0) rfl,_,rfl,r,_,_,_,rfl,rfl,SqT.of e2,G0 (j:=2) rfl,_,_,rfl,rfl,A2 (by omega),_,rfl,by rw[strLen_append];omega,.inl ⟨fg,hF,rfl,rfl⟩⟩,?_⟩
   rintro σ' H3 ⟨rfl,rfl⟩
   refine⟨fun σ' H'=>Same H3 H'/\σ'=[some (.int sg),some (.str z),some (.ref q),some (.ref r),some (.int fg),some (.int sh)],?_,?_⟩
   . refine⟨_,rfl,q,_,_,_,rfl,rfl,SqT.of e1,G0 (j:=1) rfl,rfl,_,rfl,U4 (fun h=>?_) (fun h=>?_)⟩
     . have h:(ptE z).2.1="e":=by injection h
       rw[if_pos h] at hS
       exact⟨_,rfl,q,_,_,_,rfl,rfl,SqT.of e1,G0 (j:=2) rfl,_,rfl,by omega,.inl ⟨sh,hS,fun H' s'=>⟨s',rfl⟩⟩⟩
     . have h:¬(ptE z).2.1="e":=fun q=>h (congrArg V.str q)
       rw[if_neg h] at hS
       obtain rfl:=Option.some.inj hS
       exact⟨Same.refl _,rfl⟩
   rintro σ' H4 ⟨s4,rfl⟩
   have e2:=s4 _ _ e2
   refine⟨_,?_,fun _ _ h=>h⟩
   refine⟨_,rfl,_,rfl,_,rfl,_,rfl,r,_,_,_,rfl,rfl,SqT.of e2,G0 (j:=2) rfl,_,rfl,A2 (by omega),_,_,rfl,rfl,_,_,_,rfl,.inl ⟨⟨sg,rfl,s0,s1⟩,⟨fg,rfl,fr.1,fr.2⟩,⟨pw,by rw[ep],p0,p1⟩,fun n H' nn s' num=>?_⟩⟩
   refine k n H' ((s1'.trans (s2.trans s4)).free nn) (s1'.trans (s2.trans (s4.trans s'))) ?_
   show NumAt CN H' n (.str "plain") (.int sg) (.int fg) (.int pw)
   rw[ep]
   exact num
noncomputable def sgZ (z:Str):Int:=if A0x z=true then 1 else 0
theorem B9u(z:Str):0<=sgZ z/\sgZ z<=1:=by unfold sgZ;split<;>decide
noncomputable abbrev wdZ (z:Str):Str:=Txt.lower (Txt.stripChars z " ")
noncomputable def rdR (z:Str):Option Nm:=if wdZ z="none" then some ⟨.none,0,0,0⟩ else if bare (wdZ z)="end" then some ⟨.end_,sgZ (wdZ z),0,0⟩ else
 (plR (bare (wdZ z))).bind fun q=>if -200<=q.2/\q.2<=200 then some ⟨.plain,sgZ (wdZ z),q.1,q.2⟩ else none
noncomputable def B2y (CN:Addr):Sp:=fun vs H Q _=>∃z x,vs=[.str z]/\z.length<=400/\(wdZ z).length<=400/\rdR z=some x/\∀n H',H n=none ->Same H H' ->NumIs CN H' n x ->Q (.ref n) H'
theorem scRead:FnScope ["text","word","body"] ["text"] (A6 A9u):=scK
theorem B7r{f f1 f2 f3 f4 f5 CN CB CB':Addr}(D:Def K mg "read" ["text"] A9u f fd)(dC:Def K mg "nothing" [] Y2 f1 fd1)(dD:FnOk P w K mg base (CX1 P w) 3 f1 fd1 [] (A0p CN))(dE:Def K mg "without_sign" ["word"] A1c f2 fd2)(dF:FnOk P w K mg base (CX1 P w) 1 f2 fd2 ["word"] A4c)(dA:Def K mg "sign_of" ["word"] A1p f3 fd3)(dB:FnOk P w K mg base (CX1 P w) 1 f3 fd3 ["word"] A3d)
   (dG:Def K mg "end" ["sign"] B2u f4 fd4) (dH:FnOk P w K mg base (CX1 P w) 3 f4 fd4 ["sign"] (B4a K CN CB')) (dJ:Def K mg "plain_read" ["sign","body"] Y6 f5 fd5) (dL:FnOk P w K mg base (CX1 P w) 4 f5 fd5 ["sign","body"] (A2j CN)) (B:Err K mg "NoText" CB) (O:Own mg) (T:Kit K):FnOk P w K mg base (CX1 P w) 5 f fd ["text"] (B2y CN):=by
 refine D.F.okE scRead (fun vs H Q E h=>?_) (fun X cdv A outer s H vs Q E hX hr hx h=>?_)
 . obtain⟨z,x,rfl,_⟩:=h
   rfl
 . subst hX
   obtain⟨z,x,rfl,hz,hw,hR,k⟩:=h
   refine⟨_,(A1 (A5 (G4 (V2 (G7 (A1g O.isi (pv 0) (pty O.str_ boot_str)))) (A7 (A5 (Y4 (by rfl) B.g B.q PySem.F.excBase_ValueError hr.hd hx (A0 B1 A4)))) C6))
     (A1 (A5 (B4 (i:=1) scRead.nd rfl (Or.inl rfl) (A8s PySem.F.plainAttrs_str PySem.F.slot_str_lower PySem.F.type_str_lower A6g (A2n PySem.F.plainAttrs_str PySem.F.slot_str_strip PySem.F.type_str_strip A6n (pv 0) (A0 B1 A4)))))
     (A1 (A5 (G4 (B9 U1 (pv 1) B1 (B7 _)) (A7 (B5 (A8u dC dD hr hx))) C6))
     (A1 (A5 (B4 (i:=2) scRead.nd rfl (Or.inl rfl) (B8 dE dF hr hx (A0 (pv 1) A4))))
     (A1 (A5 (G4 (B9 U1 (pv 2) B1 (B7 _)) (A7 (B5 (B8 dG dH hr hx (A0 (B8 dA dB hr hx (A0 (pv 1) A4)) A4)))) C6))
     (A7 (B5 (B8 dJ dL hr hx (A0 (B8 dA dB hr hx (A0 (pv 1) A4)) (A0 (pv 2) A4)))))))))),?_⟩
   have so:=B9u (wdZ z)
   have bl:=A3n (wdZ z)
   have sl:=B1c z " "
   unfold rdR at hR
   refine⟨fun σ' H'=>H'=H/\σ'=[some (.str z),none,none],⟨_,rfl,_,_,_,_,true,rfl,rfl,B0v _,T.str_str,_,rfl,U6 ⟨rfl,rfl⟩⟩,?_⟩
   rintro σ' H1 ⟨rfl,rfl⟩
   refine⟨fun σ' H'=>H'=H1/\σ'=[some (.str z),some (.str (wdZ z)),none],⟨_,rfl,rfl,z,_,rfl,rfl,A2 (by omega),rfl,_,rfl,rfl,A2 (show(wdZ z).length<=1000 by omega),rfl,rfl⟩,?_⟩
   rintro σ' H2 ⟨rfl,rfl⟩
   refine⟨fun σ' H'=>H'=H2/\¬wdZ z="none"/\σ'=[some (.str z),some (.str (wdZ z)),none],?_,?_⟩
   . refine⟨_,rfl,rfl,_,rfl,U4 (fun h=>?_) (fun h=>⟨rfl,fun q=>h (congrArg V.str q),rfl⟩)⟩
     have h:wdZ z="none":=by injection h
     rw[if_pos h] at hR
     obtain rfl:=Option.some.inj hR
     exact⟨rfl,fun n H' nn s' num=>k n H' nn s' num⟩
   rintro σ' H3 ⟨rfl,hn,rfl⟩
   rw[if_neg hn] at hR
   refine⟨fun σ' H'=>Same H3 H'/\σ'=[some (.str z),some (.str (wdZ z)),some (.str (bare (wdZ z)))],⟨_,rfl,_,rfl,by omega,fun H' s'=>⟨s',rfl⟩⟩,?_⟩
   rintro σ' H4 ⟨s4,rfl⟩
   refine⟨fun σ' H'=>H'=H4/\¬bare (wdZ z)="end"/\σ'=[some (.str z),some (.str (wdZ z)),some (.str (bare (wdZ z)))],?_,?_⟩
   . refine⟨_,rfl,rfl,_,rfl,U4 (fun h=>?_) (fun h=>⟨rfl,fun q=>h (congrArg V.str q),rfl⟩)⟩
     have h:bare (wdZ z)="end":=by injection h
     rw[if_pos h] at hR
     obtain rfl:=Option.some.inj hR
     exact⟨_,rfl,_,rfl,_,rfl,.inl ⟨⟨sgZ (wdZ z),rfl,so.1,so.2⟩,fun n H' nn s' num=>k n H' (s4.free nn) (s4.trans s') num⟩⟩
   rintro σ' H5 ⟨rfl,he,rfl⟩
   rw[if_neg he] at hR
   cases e1:plR (bare (wdZ z)) with
   |none=>rw[e1] at hR;cases hR
   | some q=>
     rw[e1] at hR
     have hR:(if -200<=q.2/\q.2<=200 then some (⟨.plain,sgZ (wdZ z),q.1,q.2⟩:Nm) else none)=some x:=hR
     by_cases hp: -200<=q.2/\q.2<=200
     . rw[if_pos hp] at hR
       obtain rfl:=Option.some.inj hR
       exact⟨_,rfl,_,rfl,_,rfl,sgZ (wdZ z),bare (wdZ z),q.1,q.2,rfl,so.1,so.2,by omega,e1,hp.1,hp.2,fun n H' nn s' num=>k n H' (s4.free nn) (s4.trans s') num⟩
     . rw[if_neg hp] at hR
       cases hR
end
noncomputable abbrev Y9:Stmt:=(top 20)
noncomputable abbrev A0s:Stmt:=(top 21)
noncomputable abbrev A2x:Stmt:=(top 19)
noncomputable abbrev A0k:Stmt:=(top 18)
noncomputable def C0 (l:List Nat) (b:Nat):List Nat:=List.replicate (b+1-l.length) 48++l
noncomputable def wpL (l:List Nat) (b:Nat):List Nat:=if b=0 then l else(C0 l b).take ((C0 l b).length-b)++46::(C0 l b).drop ((C0 l b).length-b)
noncomputable def wlL (l:List Nat) (e:Int):List Nat:=l.take 1++(if l.length>1 then 46::l.drop 1 else [])++ [101]++(if e<0 then [45] else [43])++dig e.natAbs
section
variable{P:Program}{w:World}{K:Frag}{mg:Str ->Option Value}{base:Heap}
noncomputable def A2g:Sp:=fun vs H Q _=>∃(l:List Nat) (b:Nat),vs=[.str (S l),.int (b:Int)]/\PySem.NumText.AllDigits l/\l≠ []/\l.length<=60/\b<=300/\Q (.str (S (wpL l b))) H
theorem scWithPoint:FnScope ["digits","behind","filled","ahead"] ["digits","behind"] (A6 Y9):=scK
theorem A5e(D:Def K mg "with_point" ["digits","behind"] Y9 f fd)(O:Own mg):FnOk P w K mg base (CX1 P w) 1 f fd ["digits","behind"] A2g:=by
 refine D.F.okE scWithPoint (fun vs H Q E h=>?_) (fun X cdv A outer s H vs Q E hX hr hx h=>?_)
 . obtain⟨l,b,rfl,_⟩:=h
   rfl
 . subst hX
   obtain⟨l,b,rfl,hd,hn,hl,hb,k⟩:=h
   refine⟨_,(A1 (A5 (G4 (B9 U1 (pv 1) A3 (B7 _)) (A7 (B5 (pv 0))) C6))
     (A1 (A5 (B4 (i:=2) scWithPoint.nd rfl (Or.inl rfl) (A2n PySem.F.plainAttrs_str PySem.F.slot_str_zfill PySem.F.type_str_zfill B4m (pv 0) (A0 (A8 V1 (pv 1) A3) A4))))
     (A1 (A5 (B4 (i:=3) scWithPoint.nd rfl (Or.inl rfl) (A8 V7 (D3 D4 (by rfl) O.len_ PySem.boot_len (A0 (pv 2) A4)) (pv 1))))
     (A7 (B5 (A8 B3 (A8 B3 (U2 A0v (pv 2) V6 (V4 (pv 3))) B1) (U2 A0v (pv 2) (V4 (pv 3)) V6))))))),?_⟩
   refine⟨fun σ' H'=>H'=H/\¬b=0/\σ'=[some (.str (S l)),some (.int (b:Int)),none,none],?_,?_⟩
   . refine⟨_,rfl,rfl,_,rfl,U4 (fun h=>?_) (fun h=>⟨rfl,fun q=>h (by rw[q];rfl),rfl⟩)⟩
     have h:b=0:=Int.ofNat.inj (V.int.inj h)
     unfold wpL at k
     rw[if_pos h] at k
     exact⟨_,rfl,k⟩
   rintro σ' H1 ⟨rfl,h,rfl⟩
   have fl:(C0 l b).length=if b+1<=l.length then l.length else b+1:=by
     unfold C0
     rw[List.length_append,List.length_replicate]
     split<;>omega
   have fb:b<=(C0 l b).length/\(C0 l b).length<=400:=by
     rw[fl]
     split<;>omega
   have hh:∀c,l.head?=some c ->48<=c:=fun c hc=>(hd c (List.mem_of_mem_head? hc)).1
   have zf:Txt.zfill (S l) ((b:Int)+1)=S (C0 l b):=by
     rw[show(b:Int)+1=((b+1:Nat):Int) from rfl]
     exact B6y l (b+1) (fun q=>by have:=hh _ q;omega) (fun q=>by have:=hh _ q;omega)
   have pd:PadOk ((b:Int)+1)=true:=by
     unfold PadOk fitsSsize
     rw[Bool.and_eq_true,Bool.not_eq_true',Bool.not_eq_true']
     refine⟨?_,A2w (A2 (by omega))⟩
     rw[Bool.or_eq_false_iff]
     exact⟨decide_eq_false (by omega),decide_eq_false (by omega)⟩
   unfold wpL at k
   rw[if_neg h] at k
   refine⟨fun σ' H'=>H'=H1/\σ'=[some (.str (S l)),some (.int (b:Int)),some (.str (S (C0 l b))),none],?_,?_⟩
   . refine⟨_,rfl,rfl,_,rfl,_,_,rfl,rfl,S l,_,rfl,rfl,pd,rfl,?_⟩
     rw[<-zf]
     rfl
   rintro σ' H2 ⟨rfl,rfl⟩
   generalize C0 l b=m at fb k
   have ea:((S m).length:Int)- (b:Int)=((m.length-b:Nat):Int):=by
     rw[B0]
     omega
   have t1:=B8n m (m.length-b) (by omega)
   have t2:=A0a m (m.length-b) (by omega)
   have n1:(".":Str).length=1:=by decide+kernel
   refine⟨fun σ' H'=>H'=H2/\σ'=[some (.str (S l)),some (.int (b:Int)),some (.str (S m)),some (.int ((m.length-b:Nat):Int))],?_,?_⟩
   . refine⟨_,rfl,_,rfl,A2 (by rw[B0];omega),_,rfl,_,_,rfl,rfl,rfl,?_⟩
     rw[<-ea]
     rfl
   rintro σ' H3 ⟨rfl,rfl⟩
   generalize m.length-b=a at t1 t2 k
   have k1:(m.take a).length<=400:=Nat.le_trans (List.length_take_le' a m) fb.2
   have k2:(m.drop a).length<=400:=by rw[List.length_drop];omega
   refine⟨_,rfl,_,rfl,_,rfl,S m,rfl,by rw[t1,B0];exact A2 (by omega),_,_,rfl,rfl,by rw[t1,B0,n1];exact A2 (by omega),_,rfl,_,rfl,_,rfl,S m,rfl,by rw[t2,B0];exact A2 (by omega),_,_,rfl,rfl,by rw[strLen_append,t1,t2,B0,B0,n1];exact A2 (by omega),?_⟩
   rw[t1,t2,Z7,D0,D0,List.append_assoc]
   exact k
noncomputable def A3v:Sp:=fun vs H Q _=>∃(l:List Nat) (e:Int),vs=[.str (S l),.int e]/\l≠ []/\l.length<=60/\ -400<=e/\e<=400/\Q (.str (S (wlL l e))) H
theorem scWithLead:FnScope ["digits","lead","others","mark"] ["digits","lead"] (A6 A0s):=scK
theorem A7h(D:Def K mg "with_lead" ["digits","lead"] A0s f fd)(O:Own mg):FnOk P w K mg base (CX1 P w) 1 f fd ["digits","lead"] A3v:=by
 refine D.F.okE scWithLead (fun vs H Q E h=>?_) (fun X cdv A outer s H vs Q E hX hr hx h=>?_)
 . obtain⟨l,e,rfl,_⟩:=h
   rfl
 . subst hX
   obtain⟨l,e,rfl,hn,hl,e0,e1,k⟩:=h
   refine⟨_,(A1 (A5 (B4 (i:=2) scWithLead.nd rfl (Or.inl rfl) (J1 (B9 A4b (D3 D4 (by rfl) O.len_ PySem.boot_len (A0 (pv 0) A4)) A3 (B7 _)) (A8 B3 B1 (U2 A0v (pv 0) (V4 A3) V6)) B1)))
     (A1 (A5 (B4 (i:=3) scWithLead.nd rfl (Or.inl rfl) (J1 (B9 A6r (pv 1) A3 (B7 _)) B1 B1)))
     (A7 (B5 (A8 B3 (A8 B3 (A8 B3 (A8 B3 (J9 A1r (pv 0) A3 (fun _ _=>rfl)) (pv 2)) B1) (pv 3)) (G3 Z1 (by rfl) O.str_ boot_str (A0 (D3 A7s (by rfl) O.abs_ boot_abs (A0 (pv 1) A4)) A4))))))),?_⟩
   have ll:1<=l.length:=by
     cases l with
     |nil=>exact absurd rfl hn
     |cons a t=>exact Nat.succ_le_succ (Nat.zero_le _)
   have c1:A2s (S l) (some 1) none=S (l.drop 1):=A0a l 1 ll
   have n1:(".":Str).length=1:=by decide+kernel
   have n2:("e":Str).length=1:=by decide+kernel
   refine⟨fun σ' H'=>H'=H/\σ'=[some (.str (S l)),some (.int e),some (.str (S (if l.length>1 then 46::l.drop 1 else []))),none],?_,?_⟩
   . refine⟨_,rfl,_,rfl,A2 (by rw[B0];omega),_,_,rfl,rfl,_,rfl,U4 (fun h=>?_) (fun h=>?_)⟩
     . have h:(1:Int)<((S l).length:Int):=h
       rw[B0] at h
       rw[if_pos (show l.length>1 by omega)]
       have k2:(l.drop 1).length<=60:=by rw[List.length_drop];omega
       refine⟨_,rfl,_,rfl,S l,rfl,by rw[c1,B0];exact A2 (by omega),_,_,rfl,rfl,by rw[c1,B0,n1];exact A2 (by omega),rfl,?_⟩
       show [some (V.str (S l)),some (V.int e),some (V.str ((".":Str)++A2s (S l) (some 1) none)),none]=_
       rw[c1,Z7,D0]
       rfl
     . have h:¬(1:Int)<((S l).length:Int):=h
       rw[B0] at h
       rw[if_neg (show¬l.length>1 by omega)]
       exact⟨rfl,by rw[<-B5z];rfl⟩
   rintro σ' H1 ⟨rfl,rfl⟩
   refine⟨fun σ' H'=>H'=H1/\σ'=[some (.str (S l)),some (.int e),some (.str (S (if l.length>1 then 46::l.drop 1 else []))),some (.str (S (if e<0 then [45] else [43])))],?_,?_⟩
   . refine⟨_,rfl,_,_,rfl,rfl,_,rfl,U4 (fun h=>?_) (fun h=>?_)⟩
     . rw[if_pos (show e<0 from h)]
       exact⟨rfl,by rw[<-litM];rfl⟩
     . rw[if_neg (show¬e<0 from h)]
       exact⟨rfl,by rw[<-B6v];rfl⟩
   rintro σ' H2 ⟨rfl,rfl⟩
   unfold wlL at k
   have o1:(if l.length>1 then 46::l.drop 1 else []).length<=61:=by
     split
     . rw[List.length_cons,List.length_drop]
       omega
     . exact Nat.zero_le _
   have o2:(if e<0 then [45] else [43]).length=1:=by split<;>rfl
   generalize (if l.length>1 then 46::l.drop 1 else [])=ot at o1 k
   generalize (if e<0 then [45] else [43])=mk at o2 k
   obtain⟨c,t,rfl⟩:∃c t,l=c::t:=by
     cases l with
     |nil=>exact absurd rfl hn
     |cons c t=>exact⟨c,t,rfl⟩
   have ea:(if e<0 then -e else e)=(e.natAbs:Int):=by split<;>omega
   have dl:(dig e.natAbs).length<=4:=Y8 (by omega) (by decide)
   have tx:Str.ofString (toString (if e<0 then -e else e))=S (dig e.natAbs):=by rw[ea,B3a]
   have lg:(if e<0 then -e else e).natAbs.log2<1920:=by
     rw[ea,Int.natAbs_natCast]
     by_cases z:e.natAbs=0
     . rw[z];decide
     . exact(Nat.log2_lt z).mpr (Nat.lt_of_lt_of_le (show e.natAbs<2^9 by omega) (Nat.pow_le_pow_right (by decide) (by decide)))
   have sc:(⟨#[c]⟩:Str)=S [c]:=rfl
   have q1:(S [c]).length=1:=B0 [c]
   have q2:=B0 ot
   have q3:=B0 mk
   have q4:=B0 (dig e.natAbs)
   refine⟨_,rfl,S (c::t),0,c,rfl,rfl,A2 (by rw[B0];omega),G0 (j:=0) rfl,_,rfl,_,_,rfl,rfl,?_,_,_,rfl,rfl,?_,_,rfl,_,_,rfl,rfl,?_,_,rfl,e,rfl,_,rfl,lg,_,_,rfl,rfl,?_,?_⟩
   . rw[sc];exact A2 (by omega)
   . rw[sc,strLen_append];exact A2 (by omega)
   . rw[sc,strLen_append,strLen_append];exact A2 (by omega)
   . rw[sc,strLen_append,strLen_append,strLen_append,tx];exact A2 (by omega)
   . rw[sc,tx,litE,D0,D0,D0,D0]
     exact k
end
deriving instance DecidableEq for Kd
noncomputable def fgL (x:Nm):List Nat:=dig x.f.toNat
noncomputable def ldW (x:Nm):Int:=if x.f=0 then x.p else x.p+((fgL x).length:Nat)-1
noncomputable def wwL (x:Nm):List Nat:=if x.p<=0/\ldW x>= -6 then wpL (fgL x) (-x.p).toNat else wlL (fgL x) (ldW x)
noncomputable def mkL (x:Nm):List Nat:=if x.s=1 then [45] else []
noncomputable def A7m:List Nat:=[110,111,110,101]
noncomputable def endL:List Nat:=[101,110,100]
noncomputable def wrL (x:Nm):List Nat:=if x.k= .none then A7m else mkL x++(if x.k= .end_ then endL else wwL x)
theorem litNone:("none":Str)=S A7m:=by decide+kernel
theorem litEnd:("end":Str)=S endL:=by decide+kernel
theorem A9t{x:Nm}(h:0<=x.f):Str.ofString (toString x.f)=S (fgL x):=by
 unfold fgL
 obtain⟨n,hn⟩:=Int.eq_ofNat_of_zero_le h
 rw[hn,B3a,Int.toNat_natCast]
theorem A3y{x:Nm}(h:x.Ok):1<=(fgL x).length/\(fgL x).length<=60:=by
 have f1:=h.f1
 have f0:=h.f0
 have e60:((10^60:Nat):Int)=10^60:=by decide+kernel
 refine⟨?_,Y8 (by omega) (by decide)⟩
 have:=A0j x.f.toNat
 unfold fgL
 cases e:dig x.f.toNat with
 |nil=>exact absurd e this
 |cons a t=>exact Nat.succ_le_succ (Nat.zero_le _)
theorem B9p{l:List Nat}{b:Nat}(hl:l.length<=60)(hb:b<=300):(wpL l b).length<=362:=by
 unfold wpL
 split
 . omega
 . have fl:(C0 l b).length<=361:=by
     unfold C0
     rw[List.length_append,List.length_replicate]
     omega
   rw[List.length_append,List.length_cons,List.length_take,List.length_drop]
   omega
theorem B8s{l:List Nat}{e:Int}(hl:l.length<=60)(e0: -400<=e)(e1:e<=400):(wlL l e).length<=150:=by
 unfold wlL
 have dl:(dig e.natAbs).length<=4:=Y8 (by omega) (by decide)
 have o1:(if l.length>1 then 46::l.drop 1 else []).length<=61:=by
   split
   . rw[List.length_cons,List.length_drop]
     omega
   . exact Nat.zero_le _
 have o2:(if e<0 then [45] else [43]).length=1:=by split<;>rfl
 have o3:(l.take 1).length<=1:=List.length_take_le 1 l
 simp only[List.length_append,o2]
 show _+_+1+1+_<=150
 omega
theorem B7s{x:Nm}(h:x.Ok): -400<=ldW x/\ldW x<=400:=by
 have:=A3y h
 have p0:=h.p0;have p1:=h.p1
 unfold ldW
 split<;>omega
theorem B3x{x:Nm}(h:x.Ok):(wwL x).length<=362:=by
 have:=A3y h
 have p0:=h.p0;have p1:=h.p1
 have lb:=B7s h
 unfold wwL
 split
 . exact B9p this.2 (by omega)
 . exact Nat.le_trans (B8s this.2 lb.1 lb.2) (by decide)
section
variable{P:Program}{w:World}{K:Frag}{mg:Str ->Option Value}{base:Heap}
noncomputable def A7u (CN:Addr):Sp:=fun vs H Q _=>∃n x,vs=[.ref n]/\NumIs CN H n x/\x.Ok/\Q (.str (S (wwL x))) H
theorem scWorthW:FnScope ["number","lead","digits"] ["number"] (A6 A2x):=scK
theorem B1a{f f1 f2 f3 CN:Addr}(D:Def K mg "worth_written" ["number"] A2x f fd)(dA:Def K mg "lead_of" ["number"] B0h f1 fd1)(dB:FnOk P w K mg base (CX1 P w) 1 f1 fd1 ["number"] (B3m CN))(dC:Def K mg "with_point" ["digits","behind"] Y9 f2 fd2)(dD:FnOk P w K mg base (CX1 P w) 1 f2 fd2 ["digits","behind"] A2g)(dE:Def K mg "with_lead" ["digits","lead"] A0s f3 fd3)(dF:FnOk P w K mg base (CX1 P w) 1 f3 fd3 ["digits","lead"] A3v)(N:Num K mg CN)(O:Own mg):FnOk P w K mg base (CX1 P w) 2 f fd ["number"] (A7u CN):=by
 refine D.F.okE scWorthW (fun vs H Q E h=>?_) (fun X cdv A outer s H vs Q E hX hr hx h=>?_)
 . obtain⟨n,x,rfl,_⟩:=h
   rfl
 . subst hX
   obtain⟨n,x,rfl,hn,ok,k⟩:=h
   have f0:=ok.f0;have f1:=ok.f1;have p0:=ok.p0;have p1:=ok.p1
   have fl:=A3y ok
   have lb:=B7s ok
   obtain⟨dn,en⟩:=id hn
   have hf:x.f.natAbs<2^300:=by
     have:(10:Int)^60<=2^300:=by decide+kernel
     omega
   have lg:x.f.natAbs.log2<1920:=Nat.lt_trans (Z0 hf (by decide)) (by decide)
   refine⟨_,(A1 (A5 (B4 (i:=1) scWorthW.nd rfl (Or.inl rfl) (J1 (B9 U1 (G9 (pv 0) rfl) A3 (B7 _)) (G9 (pv 0) rfl) (B8 dA dB hr hx (A0 (pv 0) A4)))))
     (A1 (A5 (B4 (i:=2) scWorthW.nd rfl (Or.inl rfl) (G3 Z1 (by rfl) O.str_ boot_str (A0 (G9 (pv 0) rfl) A4))))
     (A1 (A5 (G4 (PW.pt (A9b (B9 B8e (G9 (pv 0) rfl) A3 (B7 _)) (B0j (B9 B8f (pv 1) (A3p A0y A3) (B7 _))))) (A7 (B5 (B8 dC dD hr hx (A0 (pv 2) (A0 (A3p A0y (G9 (pv 0) rfl)) A4))))) C6))
     (A7 (B5 (B8 dE dF hr hx (A0 (pv 2) (A0 (pv 1) A4)))))))),?_⟩
   refine⟨fun σ' H'=>H'=H/\σ'=[some (.ref n),some (.int (ldW x)),none],?_,?_⟩
   . refine⟨_,rfl,n,CN,dn,_,_,rfl,en,N.cl,N.n3,B6g _ _ _ _,rfl,_,rfl,U4 (fun h=>?_) (fun h=>?_)⟩
     . have h:x.f=0:=V.int.inj h
       refine⟨_,rfl,n,CN,dn,_,_,rfl,en,N.cl,N.n4,B3s _ _ _ _,rfl,?_⟩
       unfold ldW
       rw[if_pos h]
       rfl
     . have h:¬x.f=0:=fun q=>h (congrArg V.int q)
       refine⟨_,rfl,n,_,_,x.f,x.p,rfl,hn,hf,rfl,?_⟩
       unfold ldW
       rw[if_neg h, <-B0 (fgL x), <-A9t f0]
       rfl
   rintro σ' H1 ⟨rfl,rfl⟩
   refine⟨fun σ' H'=>H'=H1/\σ'=[some (.ref n),some (.int (ldW x)),some (.str (S (fgL x)))],?_,?_⟩
   . refine⟨_,rfl,n,CN,dn,_,_,rfl,en,N.cl,N.n3,B6g _ _ _ _,_,rfl,lg,rfl,?_⟩
     rw[<-A9t f0]
     rfl
   rintro σ' H2 ⟨rfl,rfl⟩
   unfold wwL at k
   have ne:fgL x≠ []:=A0j _
   refine⟨fun σ' H'=>H'=H2/\¬(x.p<=0/\ldW x>= -6)/\σ'=[some (.ref n),some (.int (ldW x)),some (.str (S (fgL x)))],?_,?_⟩
   . refine⟨_,rfl,n,CN,dn,_,_,rfl,en,N.cl,N.n4,B3s _ _ _ _,_,_,rfl,rfl,_,rfl,U4 (fun h=>?_) (fun h=>⟨rfl,fun q=>h q.1,rfl⟩)⟩
     have h:x.p<=0:=h
     refine⟨_,rfl,_,rfl,_,_,rfl,rfl,_,rfl,U4 (fun h2=>?_) (fun h2=>⟨rfl,fun q=>h2 q.2,rfl⟩)⟩
     have h2:ldW x>= -6:=h2
     rw[if_pos ⟨h,h2⟩] at k
     refine⟨_,rfl,_,rfl,n,CN,dn,_,_,rfl,en,N.cl,N.n4,B3s _ _ _ _,_,rfl,fgL x,(-x.p).toNat,?_,Z2 _,ne,fl.2,by omega,k⟩
     show [V.str (S (fgL x)),V.int (-x.p)]=_
     rw[Int.toNat_of_nonneg (by omega)]
   rintro σ' H3 ⟨rfl,hh,rfl⟩
   rw[if_neg hh] at k
   exact⟨_,rfl,_,rfl,fgL x,ldW x,rfl,ne,fl.2,lb.1,lb.2,k⟩
noncomputable def A1v (K:Frag) (CN CB:Addr):Sp:=fun vs H Q E=>∃u,vs=[u]/\((∃n x,u= .ref n/\NumIs CN H n x/\x.Ok/\Q (.str (S (wrL x))) H)\/(A5t K CN H u/\E (.ref CB) none H))
theorem scWritten:FnScope ["number","mark"] ["number"] (A6 A0k):=scK
theorem A8c{f f1 f2 CN CB:Addr}(D:Def K mg "written" ["number"] A0k f fd)(dA:Def K mg "need_number" ["thing"] A3k f1 fd1)(dB:FnOk P w K mg base (CX1 P w) 1 f1 fd1 ["thing"] (B0s K CN CB))(dC:Def K mg "worth_written" ["number"] A2x f2 fd2)(dD:FnOk P w K mg base (CX1 P w) 2 f2 fd2 ["number"] (A7u CN))(N:Num K mg CN):FnOk P w K mg base (CX1 P w) 3 f fd ["number"] (A1v K CN CB):=by
 refine D.F.okE scWritten (fun vs H Q E h=>?_) (fun X cdv A outer s H vs Q E hX hr hx h=>?_)
 . obtain⟨u,rfl,_⟩:=h
   rfl
 . subst hX
   obtain⟨u,rfl,h⟩:=h
   refine⟨_,(A1 (A5 (U5 (B8 dA dB hr hx (A0 (pv 0) A4))))
     (A1 (A5 (G4 (B9 U1 (G9 (pv 0) rfl) B1 (B7 _)) (A7 (B5 B1)) C6))
     (A1 (A5 (B4 (i:=1) scWritten.nd rfl (Or.inl rfl) (J1 (B9 U1 (G9 (pv 0) rfl) A3 (B7 _)) B1 B1)))
     (A1 (A5 (G4 (B9 U1 (G9 (pv 0) rfl) B1 (B7 _)) (A7 (B5 (A8 B3 (pv 1) B1))) C6))
     (A7 (B5 (A8 B3 (pv 1) (B8 dC dD hr hx (A0 (pv 0) A4))))))))),?_⟩
   rcases h with⟨n,x,rfl,hn,ok,k⟩|⟨bad,k⟩
   rotate_left
   . exact⟨fun _ _=>False,⟨_,rfl,_,rfl,.inr ⟨bad,k⟩⟩,fun _ _ h=>h.elim⟩
   obtain⟨dn,en⟩:=id hn
   unfold wrL at k
   refine⟨fun σ' H'=>H'=H/\σ'=[some (.ref n),none],⟨_,rfl,_,rfl,.inl ⟨n,_,_,_,_,rfl,hn,rfl,rfl⟩⟩,?_⟩
   rintro σ' H1 ⟨rfl,rfl⟩
   refine⟨fun σ' H'=>H'=H1/\x.k≠ .none/\σ'=[some (.ref n),none],?_,?_⟩
   . refine⟨_,rfl,n,CN,dn,_,_,rfl,en,N.cl,N.n1,B9a _ _ _ _,rfl,_,rfl,U4 (fun h=>?_) (fun h=>⟨rfl,neS (b:= .none) h,rfl⟩)⟩
     rw[if_pos (eqS (b:= .none) h), <-litNone] at k
     exact k
   rintro σ' H2 ⟨rfl,hN,rfl⟩
   rw[if_neg hN] at k
   refine⟨fun σ' H'=>H'=H2/\σ'=[some (.ref n),some (.str (S (mkL x)))],?_,?_⟩
   . refine⟨_,rfl,n,CN,dn,_,_,rfl,en,N.cl,N.n2,C2b _ _ _ _,rfl,_,rfl,U4 (fun h=>?_) (fun h=>?_)⟩
     . unfold mkL
       rw[if_pos (V.int.inj h), <-litM]
       exact⟨rfl,rfl⟩
     . unfold mkL
       rw[if_neg (fun q=>h (congrArg V.int q)), <-B5z]
       exact⟨rfl,rfl⟩
   rintro σ' H3 ⟨rfl,rfl⟩
   have ml:(S (mkL x)).length<=1:=by
     rw[B0]
     unfold mkL
     split<;>decide
   refine⟨fun σ' H'=>H'=H3/\x.k≠ .end_/\σ'=[some (.ref n),some (.str (S (mkL x)))],?_,?_⟩
   . refine⟨_,rfl,n,CN,dn,_,_,rfl,en,N.cl,N.n1,B9a _ _ _ _,rfl,_,rfl,U4 (fun h=>?_) (fun h=>⟨rfl,neS (b:= .end_) h,rfl⟩)⟩
     rw[if_pos (eqS (b:= .end_) h), <-D0, <-litEnd] at k
     exact⟨_,rfl,_,_,rfl,rfl,A2 (by
         have:("end":Str).length=3:=by decide+kernel
         omega),k⟩
   rintro σ' H4 ⟨rfl,hE,rfl⟩
   rw[if_neg hE, <-D0] at k
   have wl:=B3x ok
   exact⟨_,rfl,_,rfl,n,x,rfl,hn,ok,_,_,rfl,rfl,A2 (by rw[B0 (wwL x)];omega),k⟩
end
theorem A5s{l:List Nat}(hd:PySem.NumText.AllDigits l)(hn:l≠ [])(hl:(l.dropWhile ([48]:List Nat).contains).length<=60):A4h (S l)=some ((PySem.NumText.digitsVal l:Nat):Int):=by
 unfold A4h
 rw[if_pos ((A1f l).mpr ⟨hn,hd⟩),B3j,A1n,B0,if_neg (by omega)]
 rfl
theorem A9r(l:List Nat):A0x (S l)=decide (l.head?=some 45):=by
 unfold A0x
 rw[litM,A0d]
theorem B3h(l:List Nat):A7q (S l)=(decide (l.head?=some 43)||decide (l.head?=some 45)):=by
 unfold A7q
 rw[litM,B6v,A0d,A0d]
theorem A1t{c:Nat}{t:List Nat}(h:c=43\/c=45):bare (S (c::t))=S t:=by
 unfold bare
 rw[if_pos]
 . exact A0a (c::t) 1 (Nat.succ_le_succ (Nat.zero_le _))
 . rw[B3h]
   rcases h with rfl|rfl<;>simp
theorem B7f{l:List Nat}(h1:l.head?≠some 43)(h2:l.head?≠some 45):bare (S l)=S l:=by
 unfold bare
 rw[if_neg]
 rw[B3h,decide_eq_false h1,decide_eq_false h2]
 exact Bool.false_ne_true
theorem B8x{c:Nat}{n:Nat}(hc:c=43\/c=45)(hn:n<1000):shR (S (c::dig n))=some (if c=45 then -(n:Int) else n):=by
 unfold shR
 have hl:=Y8 (k:=3) hn (by decide)
 rw[A1t hc,if_pos ((A1f _).mpr ⟨A0j n,Z2 n⟩),B0,if_neg (by omega),A9r]
 have hv:A4f (S (dig n))=(n:Int):=by
   unfold A4f
   rw[G8,B0b]
 rw[hv]
 rcases hc with rfl|rfl<;>rfl
theorem A0q{l:List Nat}(hd:PySem.NumText.AllDigits l){c:Nat}(hc:c<48\/57<c):c ∉ l:=fun h=>by
 have:=hd c h
 omega
theorem B1v{l:List Nat}{b:Nat}(hd:PySem.NumText.AllDigits l)(hn:l≠ [])(hl:l.length<=60):plR (S (wpL l b))=some (((PySem.NumText.digitsVal l:Nat):Int), -(b:Int)):=by
 have dw:∀k,((List.replicate k 48++l).dropWhile ([48]:List Nat).contains).length<=60:=fun k=>by
   induction k with
   |zero=>exact Nat.le_trans (List.dropWhile_suffix _).length_le hl
   | succ k ih=>
     rw[List.replicate_succ,List.cons_append,List.dropWhile_cons_of_pos (by decide)]
     exact ih
 have fd:PySem.NumText.AllDigits (C0 l b):=fun c hc=>by
   unfold C0 at hc
   rcases List.mem_append.mp hc with hc|hc
   . obtain⟨_,rfl⟩:=List.mem_replicate.mp hc
     decide
   . exact hd c hc
 have fv:PySem.NumText.digitsVal (C0 l b)=PySem.NumText.digitsVal l:=A2a _ _
 have ff:((C0 l b).dropWhile ([48]:List Nat).contains).length<=60:=dw _
 have fn:C0 l b≠ []:=by
   unfold C0
   intro q
   exact hn (List.append_eq_nil_iff.mp q).2
 have fb:b<=(C0 l b).length:=by
   unfold C0
   rw[List.length_append,List.length_replicate]
   omega
 have noE:(101:Nat) ∉ wpL l b:=by
   unfold wpL
   split
   . exact A0q hd (by decide)
   . intro q
     rcases List.mem_append.mp q with q|q
     . exact A0q fd (by decide) (List.mem_of_mem_take q)
     . rcases List.mem_cons.mp q with q|q
       . exact absurd q (by decide)
       . exact A0q fd (by decide) (List.mem_of_mem_drop q)
 have e1:ptE (S (wpL l b))=(S (wpL l b),S [],S []):=by
   show Txt.partition _ ("e":Str)=_
   rw[litE]
   exact A6a noE
 unfold plR
 rw[e1]
 dsimp only
 rw[if_neg (by rw[litE];exact fun q=>nomatch (A6u q))]
 by_cases hb:b=0
 . have e2:ptD (S (wpL l b))=(S l,S [],S []):=by
     show Txt.partition _ (".":Str)=_
     rw[Z7,show wpL l b=l by unfold wpL;rw[if_pos hb]]
     exact A6a (A0q hd (by decide))
   rw[e2]
   dsimp only
   rw[D0,List.append_nil,A5s hd hn (dw 0),B0,hb]
   rfl
 . have e2:ptD (S (wpL l b))=(S ((C0 l b).take ((C0 l b).length-b)),S [46],S ((C0 l b).drop ((C0 l b).length-b))):=by
     show Txt.partition _ (".":Str)=_
     rw[Z7,show wpL l b=(C0 l b).take ((C0 l b).length-b)++46::(C0 l b).drop ((C0 l b).length-b) by unfold wpL;rw[if_neg hb]]
     exact A5n (fun q=>A0q fd (by decide) (List.mem_of_mem_take q))
   rw[e2]
   dsimp only
   rw[D0,List.take_append_drop,A5s fd fn ff,B0,List.length_drop,fv]
   show some (_,_)=some (_,_)
   congr 2
   omega
theorem B4s{l:List Nat}{e:Int}(hd:PySem.NumText.AllDigits l)(hn:l≠ [])(hl:l.length<=60)(e0: -400<=e)(e1:e<=400):plR (S (wlL l e))=some (((PySem.NumText.digitsVal l:Nat):Int),e-((l.length-1:Nat):Int)):=by
 have dw:(l.dropWhile ([48]:List Nat).contains).length<=60:=Nat.le_trans (List.dropWhile_suffix _).length_le hl
 obtain⟨c,t,rfl⟩:∃c t,l=c::t:=by
   cases l with
   |nil=>exact absurd rfl hn
   |cons c t=>exact⟨c,t,rfl⟩
 have dt:=hd.tail
 have dc:=hd.head
 have hm:(if e<0 then 45 else 43)=43\/(if e<0 then 45 else 43)=45:=by split<;>simp
 have ew:wlL (c::t) e=(c::(if t.length>0 then 46::t else []))++101::((if e<0 then 45 else 43)::dig e.natAbs):=by
   unfold wlL
   have a1:(if(c::t).length>1 then 46::(c::t).drop 1 else [])=(if t.length>0 then 46::t else []):=by
     by_cases h:t.length>0
     . rw[if_pos h,if_pos (by rw[List.length_cons];omega)]
       rfl
     . rw[if_neg h,if_neg (by rw[List.length_cons];omega)]
   have a2:(if e<0 then [45] else [43])=[if e<0 then 45 else 43]:=by split<;>rfl
   rw[a1,a2]
   simp
 have noE:(101:Nat) ∉ (c::(if t.length>0 then 46::t else [])):=by
   intro q
   rcases List.mem_cons.mp q with q|q
   . omega
   . split at q
     . rcases List.mem_cons.mp q with q|q
       . exact absurd q (by decide)
       . exact A0q dt (by decide) q
     . cases q
 have p1:ptE (S (wlL (c::t) e))=(S (c::(if t.length>0 then 46::t else [])),S [101],S ((if e<0 then 45 else 43)::dig e.natAbs)):=by
   show Txt.partition _ ("e":Str)=_
   rw[litE,ew]
   exact A5n noE
 have p2:ptD (S (c::(if t.length>0 then 46::t else [])))=(S [c],(if t.length>0 then S [46] else S []),S t):=by
   show Txt.partition _ (".":Str)=_
   rw[Z7]
   by_cases h:t.length>0
   . rw[if_pos h,if_pos h]
     exact A5n (a:=[c]) (by intro q;have:=List.mem_singleton.mp q;omega)
   . rw[if_neg h,if_neg h]
     have:t=[]:=List.eq_nil_of_length_eq_zero (by omega)
     subst this
     exact A6a (by intro q;have:=List.mem_singleton.mp q;omega)
 have sh:=B8x (n:=e.natAbs) hm (by omega)
 unfold plR
 rw[p1]
 dsimp only
 rw[p2]
 dsimp only
 rw[if_pos litE.symm,sh,D0,show [c]++t=c::t from rfl,A5s hd hn dw,B0]
 show some (_,_)=some (_,_)
 congr 2
 rw[List.length_cons,Nat.add_sub_cancel]
 split
 . rw[if_pos rfl]
   omega
 . rw[if_neg (by decide)]
   omega
theorem B9d{x:Nm}(ok:x.Ok):plR (S (wwL x))=some (x.f,x.p):=by
 have fl:=A3y ok
 have lb:=B7s ok
 have f0:=ok.f0
 have v:((PySem.NumText.digitsVal (fgL x):Nat):Int)=x.f:=by
   unfold fgL
   rw[B0b,Int.toNat_of_nonneg f0]
 unfold wwL
 split
 . rename_i h
   rw[B1v (l:=fgL x) (Z2 _) (A0j _) fl.2,v]
   congr 2
   omega
 . rw[B4s (l:=fgL x) (Z2 _) (A0j _) fl.2 lb.1 lb.2,v]
   congr 2
   unfold ldW
   split
   . rename_i h
     have:(fgL x).length=1:=by
       unfold fgL
       rw[h]
       rw[show(0:Int).toNat=0 from rfl,U7 (by decide)]
       rfl
     omega
   . omega
noncomputable def Sg (c:Nat):Prop:=c=43\/c=45\/c=46\/(48<=c/\c<=57)\/c=100\/c=101\/c=110\/c=111
theorem A3w{l:List Nat}(h:PySem.NumText.AllDigits l):∀c∈l,Sg c:=fun c hc=>by
 have:=h c hc
 unfold Sg
 omega
theorem B8a(x:Nm):∀c∈wrL x,Sg c:=by
 have d1:=Z2 x.f.toNat
 have fd:∀b,∀c∈C0 (fgL x) b,Sg c:=fun b c hc=>by
   unfold C0 at hc
   rcases List.mem_append.mp hc with hc|hc
   . obtain⟨_,rfl⟩:=List.mem_replicate.mp hc
     unfold Sg;omega
   . exact A3w d1 c hc
 have wp:∀b,∀c∈wpL (fgL x) b,Sg c:=fun b c hc=>by
   unfold wpL at hc
   split at hc
   . exact A3w d1 c hc
   . rcases List.mem_append.mp hc with q|q
     . exact fd b c (List.mem_of_mem_take q)
     . rcases List.mem_cons.mp q with rfl|q
       . unfold Sg;omega
       . exact fd b c (List.mem_of_mem_drop q)
 have wl:∀e,∀c∈wlL (fgL x) e,Sg c:=fun e c hc=>by
   unfold wlL at hc
   simp only[List.mem_append] at hc
   rcases hc with(((q|q)|q)|q)|q
   . exact A3w d1 c (List.mem_of_mem_take q)
   . split at q
     . rcases List.mem_cons.mp q with rfl|q
       . unfold Sg;omega
       . exact A3w d1 c (List.mem_of_mem_drop q)
     . cases q
   . rw[List.mem_singleton.mp q]
     unfold Sg;omega
   . split at q<;>(rw[List.mem_singleton.mp q];unfold Sg;omega)
   . exact A3w (Z2 _) c q
 intro c hc
 unfold wrL at hc
 split at hc
 . have:∀c∈A7m,c=110\/c=111\/c=101:=by decide
   have:=this c hc
   unfold Sg;omega
 . rcases List.mem_append.mp hc with q|q
   . unfold mkL at q
     split at q
     . rw[List.mem_singleton.mp q]
       unfold Sg;omega
     . cases q
   . split at q
     . have:∀c∈endL,c=101\/c=110\/c=100:=by decide
       have:=this c q
       unfold Sg;omega
     . unfold wwL at q
       split at q
       . exact wp _ c q
       . exact wl _ c q
noncomputable def G5 (up:Bool) (u:List Nat):List Nat:=if up=true then u.map up1 else u
noncomputable def A0c (up plus:Bool) (a b:Nat) (u:List Nat):List Nat:=List.replicate a 32++((if plus=true then [43] else [])++G5 up u)++List.replicate b 32
theorem B0m{u:List Nat}(h:∀c∈u,Sg c)(up:Bool):(G5 up u).map lo1=u:=by
 have nc:∀c∈u,¬(65<=c/\c<=90):=fun c hc=>by
   have:=h c hc
   unfold Sg at this
   omega
 unfold G5
 split
 . rw[List.map_map]
   exact(List.map_congr_left fun c hc=>C1r (nc c hc)).trans (List.map_id _)
 . exact(List.map_congr_left fun c hc=>C1x (nc c hc)).trans (List.map_id _)
theorem A5q{v:List Nat}(a b:Nat)(hv:∀c∈v,c≠32):Txt.stripChars (S (List.replicate a 32++v++List.replicate b 32)) (S [32])=S v:=by
 rw[A5u]
 congr 1
 have dr:∀(k:Nat) (m:List Nat),(List.replicate k 32++m).dropWhile ([32]:List Nat).contains=m.dropWhile ([32]:List Nat).contains:=fun k m=>by
   induction k with
   |zero=>rfl
   | succ k ih=>
     rw[List.replicate_succ,List.cons_append,List.dropWhile_cons_of_pos (by decide)]
     exact ih
 have st:∀m:List Nat,(∀c∈m,c≠32) ->∀w,m≠ [] ->(m++w).dropWhile ([32]:List Nat).contains=m++w:=fun m hm w hne=>by
   cases m with
   |nil=>exact absurd rfl hne
   | cons c t=>
     rw[List.cons_append,List.dropWhile_cons_of_neg (by have:=hm c (List.mem_cons_self ..);simp[this])]
 by_cases hne:v=[]
 . subst hne
   rw[List.append_nil,dr]
   have:(List.replicate b 32).dropWhile ([32]:List Nat).contains=[]:=by
     have:=dr b []
     rw[List.append_nil] at this
     rw[this]
     rfl
   rw[this]
   rfl
 . rw[List.append_assoc,dr,st v hv _ hne,List.reverse_append,List.reverse_replicate,dr]
   have:=st v.reverse (fun c hc=>hv c (List.mem_reverse.mp hc)) [] (by simpa using hne)
   rw[List.append_nil] at this
   rw[this,List.reverse_reverse]
theorem A2b{l:List Nat}(h:PySem.NumText.AllDigits l)(hn:l≠ []):∃c t,l=c::t/\48<=c/\c<=57:=by
 cases l with
 |nil=>exact absurd rfl hn
 |cons c t=>exact⟨c,t,rfl,h.head.1,h.head.2⟩
theorem B0a(x:Nm):∃c t,wwL x=c::t/\48<=c/\c<=57:=by
 have d1:PySem.NumText.AllDigits (fgL x):=Z2 _
 have d2:fgL x≠ []:=A0j _
 unfold wwL
 split
 . unfold wpL
   split
   . exact A2b d1 d2
   . generalize (-x.p).toNat=b
     have fd:PySem.NumText.AllDigits (C0 (fgL x) b):=fun c hc=>by
       unfold C0 at hc
       rcases List.mem_append.mp hc with hc|hc
       . obtain⟨_,rfl⟩:=List.mem_replicate.mp hc
         decide
       . exact d1 c hc
     have fb:b+1<=(C0 (fgL x) b).length:=by
       unfold C0
       rw[List.length_append,List.length_replicate]
       omega
     obtain⟨c,t,e,hc⟩:=A2b (l:=(C0 (fgL x) b).take ((C0 (fgL x) b).length-b)) (fun c hc=>fd c (List.mem_of_mem_take hc)) (fun q=>by
       have:=congrArg List.length q
       rw[List.length_take] at this
       simp at this
       omega)
     rw[e]
     exact⟨c,_,rfl,hc⟩
 . unfold wlL
   obtain⟨c,t,e,hc⟩:=A2b d1 d2
   rw[e]
   exact⟨c,_,rfl,hc⟩
noncomputable def Y1 (x:Nm):List Nat:=if x.k= .end_ then endL else wwL x
theorem A4y(x:Nm):∃c t,Y1 x=c::t/\((48<=c/\c<=57)\/c=101):=by
 unfold Y1
 split
 . exact⟨101,[110,100],rfl,.inr rfl⟩
 . obtain⟨c,t,e,h⟩:=B0a x
   exact⟨c,t,e,.inl h⟩
theorem A4v{x:Nm}(ok:x.Ok)(he:x.k= .end_ ->x.f=0/\x.p=0)(hn:x.k= .none ->x.s=0/\x.f=0/\x.p=0)(up plus:Bool)(a b:Nat)(hp:plus=true ->x.k≠ .none/\x.s≠1):wdZ (S (A0c up plus a b (wrL x)))=S ((if plus=true then [43] else [])++wrL x)/\rdR (S (A0c up plus a b (wrL x)))=some x:=by
 have sg:=B8a x
 have hw :wdZ (S (A0c up plus a b (wrL x)))=S ((if plus=true then [43] else [])++wrL x):=by
   have hv:∀c∈(if plus=true then [43] else [])++G5 up (wrL x),c≠32/\c<128:=fun c hc=>by
     rcases List.mem_append.mp hc with q|q
     . split at q
       . rw[List.mem_singleton.mp q]
         decide
       . cases q
     . unfold G5 at q
       split at q
       . obtain⟨d,hd,rfl⟩:=List.mem_map.mp q
         have:=sg d hd
         unfold Sg at this
         unfold up1
         split<;>omega
       . have:=sg c q
         unfold Sg at this
         omega
   show Txt.lower (Txt.stripChars _ (" ":Str))=_
   rw[show(" ":Str)=S [32] by decide+kernel]
   unfold A0c
   rw[A5q a b fun c hc=>(hv c hc).1,B0p fun c hc=>(hv c hc).2,List.map_append,B0m sg]
   congr 2
   split<;>rfl
 refine⟨hw,?_⟩
 unfold rdR
 rw[hw]
 by_cases hk:x.k= .none
 . have hpl:plus=false:=by
     cases plus with
     |true=>exact absurd hk (hp rfl).1
     |false=>rfl
   have ew:wrL x=A7m:=by unfold wrL;rw[if_pos hk]
   rw[hpl,if_neg Bool.false_ne_true,ew,List.nil_append,if_pos litNone.symm]
   obtain⟨n1,n2,n3⟩:=hn hk
   obtain⟨k,s,f,p⟩:=x
   dsimp only at hk n1 n2 n3
   rw[hk,n1,n2,n3]
 have ew:wrL x=mkL x++Y1 x:=by unfold wrL Y1;rw[if_neg hk]
 rw[ew]
 obtain⟨c,t,eb,hc⟩:=A4y x
 have s0:=ok.s0;have s1:=ok.s1
 obtain ⟨W,eW,w1,w2,w3⟩:∃W,(if plus=true then [43] else [])++(mkL x++Y1 x)=W/\W≠A7m/\bare (S W)=S (Y1 x)/\sgZ (S W)=x.s:=by
   refine⟨_,rfl,?_⟩
   unfold sgZ
   rw[A9r]
   cases plus with
   | true=>
     have h1:=(hp rfl).2
     have m:mkL x=[]:=by unfold mkL;rw[if_neg h1]
     rw[if_pos rfl,m,List.nil_append]
     refine⟨fun q=>?_,A1t (.inl rfl),?_⟩
     . exact absurd (List.cons.inj q).1 (by decide)
     . rw[if_neg (by simp)]
       omega
   | false=>
     rw[if_neg Bool.false_ne_true,List.nil_append]
     by_cases h1:x.s=1
     . have m:mkL x=[45]:=by unfold mkL;rw[if_pos h1]
       rw[m]
       refine⟨fun q=>absurd (List.cons.inj q).1 (by decide),A1t (.inr rfl),?_⟩
       rw[if_pos (by simp)]
       omega
     . have m:mkL x=[]:=by unfold mkL;rw[if_neg h1]
       rw[m,List.nil_append,eb]
       refine⟨fun q=>?_,B7f (by simp;omega) (by simp;omega),?_⟩
       . have:=(List.cons.inj q).1
         omega
       . rw[if_neg (by simp;omega)]
         omega
 rw[eW,if_neg (fun q=>w1 (A6u (q.trans litNone))),w2,w3]
 by_cases hE:x.k= .end_
 . have e3:Y1 x=endL:=by unfold Y1;rw[if_pos hE]
   rw[e3,if_pos litEnd.symm]
   obtain⟨n1,n2⟩:=he hE
   obtain⟨k,s,f,p⟩:=x
   dsimp only at hE n1 n2
   rw[hE,n1,n2]
 . have e3:Y1 x=wwL x:=by unfold Y1;rw[if_neg hE]
   obtain⟨c',t',e4,h4⟩:=B0a x
   rw[e3,if_neg (fun q=>by
     have q:=A6u (q.trans litEnd)
     rw[e4] at q
     have:=(List.cons.inj q).1
     omega),B9d ok]
   show(if -200<=x.p/\x.p<=200 then some (⟨.plain,x.s,x.f,x.p⟩:Nm) else none)=some x
   rw[if_pos ⟨ok.p0,ok.p1⟩]
   obtain⟨k,s,f,p⟩:=x
   dsimp only at hk hE ⊢
   cases k with
   |plain=>rfl
   |end_=>exact absurd rfl hE
   |none=>exact absurd rfl hk
noncomputable def A6h (k:Str) (s f p:Int):PyData:= .tuple [.str k,.int s,.int f,.int p]
theorem shD{k:Str}(s f p:Int)(h:PyData.strOk k=true):SeqAt.shaped (A6h k s f p)=true:=by
 unfold SeqAt.shaped A6h
 simp[PyData.canLay0,PyData.canLayAll0,PyData.depth,PyData.depthAll,h]
theorem eqD(k:Str)(s f p:Int):PyData.eqv (A6h k s f p) (A6h k s f p)=true:=by
 simp[A6h,PyData.eqv,PyData.eqvAll]
theorem rdD{K:Frag}{H:Hp}{d:Addr}{k:Str}{s f p:Int}(h:H d=some (.tup [.str k,.int s,.int f,.int p])):RdD K H (.ref d) (A6h k s f p):= .tup (SqT.of h) (.cons (.str _) (.cons (.int _) (.cons (.int _) (.cons (.int _) .nil))))
theorem okK(k:Kd):PyData.strOk k.str=true:=by cases k<;>decide+kernel
noncomputable abbrev Z8:Stmt:=(top 38)
noncomputable abbrev A5g:Stmt:=(top 39)
noncomputable abbrev A2z:Stmt:=(top 40)
theorem B0e{c:Nat}(h:c<10):atI ("0123456789":Str).cps.toList (c:Int)=some (48+c):=by
 have:∀c:Nat,c<10 ->("0123456789":Str).cps.toList[c]?=some (48+c):=by decide+kernel
 exact G0 (this c h)
theorem A2v(c:Nat)(k:Nat):U3 (S [c]) (k:Int)=S (List.replicate k c):=by
 rw[<-A2r (U3 (S [c]) (k:Int)),A2f,G8,Int.toNat_natCast]
 congr 1
 induction k with
 |zero=>rfl
 | succ k ih=>
   rw[List.replicate_succ,List.flatten_cons,ih]
   rfl
theorem B6w(x:Nm):∃c t,wrL x=c::t/\(x.k≠ .none ->x.s=1 ->c=45):=by
 by_cases hk:x.k= .none
 . refine⟨110,[111,110,101],?_,fun h=>absurd hk h⟩
   unfold wrL
   rw[if_pos hk]
   rfl
 . obtain⟨c,t,e,_⟩:=A4y x
   have ew:wrL x=mkL x++Y1 x:=by unfold wrL Y1;rw[if_neg hk]
   by_cases h1:x.s=1
   . exact⟨45,Y1 x,by rw[ew,show mkL x=[45] by unfold mkL;rw[if_pos h1]];rfl,fun _ _=>rfl⟩
   . exact⟨c,t,by rw[ew,show mkL x=[] by unfold mkL;rw[if_neg h1],e];rfl,fun _ h=>absurd h h1⟩
theorem B3p{x:Nm}(ok:x.Ok):(wrL x).length<=363:=by
 have a:=B3x ok
 unfold wrL
 split
 . decide
 . rw[List.length_append]
   have b:(mkL x).length<=1:=by unfold mkL;split<;>decide
   split
   . have:endL.length=3:=rfl
     omega
   . omega
section
variable{P:Program}{w:World}{K:Frag}{mg:Str ->Option Value}{base:Heap}
noncomputable def A1w:Sp:=fun vs H Q _=>∃n:Nat,vs=[.int (n:Int)]/\n<10^60/\∀H',Same H H' ->Q (.str (S (dig n))) H'
theorem scLDigits:FnScope ["_law_number","_law_found","_law_last"] ["_law_number"] (A6 Z8):=scK
theorem A9d(D:Def K mg "_law_digits" ["_law_number"] Z8 f fd)(O:Own mg):FnOk P w K mg base (CX1 P w) 1 f fd ["_law_number"] A1w:=by
 refine D.F.okE scLDigits (fun vs H Q E h=>?_) (fun X cdv A outer s H vs Q E hX hr hx h=>?_)
 . obtain⟨n,rfl,_⟩:=h
   rfl
 . subst hX
   obtain⟨n,rfl,hn,k⟩:=h
   have l60:=Y8 hn (by decide)
   have n10:("0123456789":Str).length=10:=by decide+kernel
   refine⟨_,(A1 (A5 (B4 (i:=1) scLDigits.nd rfl (Or.inl rfl) B1))
     (A1 (A5 (A6y PassesOwn.leaving (B9 A4b (pv 0) A3 (B7 _)) (A1 (A5 (B8k (D3 A5h (by rfl) O.divmod_ boot_divmod (A0 (pv 0) (A0 A3 A4))) (B8v rfl (A1b (V5 (i:=0) scLDigits.nd rfl (Or.inl rfl)) (A1b (V5 (i:=2) scLDigits.nd rfl (Or.inl rfl)) A9w)))))
     (A7 (A5 (B4 (i:=1) scLDigits.nd rfl (Or.inl rfl) (A8 B3 (J9 A1r B1 (pv 2) (fun _ _=>rfl)) (pv 1))))))))
     (A7 (B5 (A8 B3 (J9 A1r B1 (pv 0) (fun _ _=>rfl)) (pv 1)))))),?_⟩
   refine⟨fun σ' H'=>H'=H/\σ'=[some (.int (n:Int)),some (.str (S [])),none],⟨rfl,by rw[<-B5z];rfl⟩,?_⟩
   rintro σ' H1 ⟨rfl,rfl⟩
   refine⟨fun σ' H'=>Same H1 H'/\∃(m:Nat) (acc:List Nat) (y:Option V),m<10/\dig n=(48+m)::acc/\σ'=[some (.int (m:Int)),some (.str (S acc)),y],?_,?_⟩
   . refine A6p (fun σ H3=>Same H1 H3/\∃(m:Nat) (acc:List Nat) (y:Option V),dig n=dig m++acc/\σ=[some (.int (m:Int)),some (.str (S acc)),y]) (fun σ _=>match σ with| [some (.int g),_,_]=>g.toNat|_=>0) ⟨Same.refl _,n,[],none,by rw[List.append_nil],rfl⟩ ?_ ?_
     . rintro σ H3 ⟨s3,m,acc,y,ed,rfl⟩
       refine⟨_,rfl,_,_,rfl,rfl,_,rfl,U4 (fun h=>?_) (fun h=>?_)⟩
       . have h:(9:Int)<(m:Int):=h
         have m10:m % 10<10:=Nat.mod_lt m (by decide)
         have ed2:=ed
         rw[A1a (n:=m) (by omega),List.append_assoc] at ed2
         have al:acc.length<=60:=by rw[ed,List.length_append] at l60;omega
         refine⟨fun σ' H'=>Same H1 H'/\σ'=[some (.int ((m/10:Nat):Int)),some (.str (S acc)),some (.int ((m % 10:Nat):Int))],⟨_,rfl,_,_,rfl,⟨by decide,by decide+kernel⟩,fun p np=>⟨p,_,rfl,SqT.of A9,rfl,_,_,rfl,_,_,rfl,rfl,s3.trans (Same.upd np),rfl⟩⟩,?_⟩
         rintro σ' H4 ⟨s4,rfl⟩
         refine⟨_,?_,fun _ _ h=>h⟩
         refine⟨_,rfl,"0123456789",_,48+m % 10,rfl,rfl,A2 (by rw[n10];decide),B0e m10,_,rfl,_,_,rfl,rfl,by show 1+(S acc).length<=sizeLine;rw[B0];exact A2 (by omega),⟨s4,m/10,(48+m % 10)::acc,some (.int ((m % 10:Nat):Int)),ed2,?_⟩,?_⟩
         . show [some (V.int ((m/10:Nat):Int)),some (V.str (S [48+m % 10]++S acc)),some (V.int ((m % 10:Nat):Int))]=_
           rw[D0]
           rfl
         . show(((m/10:Nat):Int)).toNat<((m:Nat):Int).toNat
           omega
       . have h:¬(9:Int)<(m:Int):=h
         exact⟨s3,m,acc,y,by omega,by rw[ed,U7 (by omega)];rfl,rfl⟩
     . rintro σ H3 Q1 Q2 hQ ⟨v1,e1,a1,a2,f1,f2,bb,eb,q⟩
       exact⟨v1,e1,a1,a2,f1,f2,bb,eb,hQ _ _ q⟩
   rintro σ' H2 ⟨s2,m,acc,y,hm,ed,rfl⟩
   rw[ed] at k l60
   have la:acc.length<=60:=by rw[List.length_cons] at l60;omega
   refine⟨_,rfl,"0123456789",_,48+m,rfl,rfl,A2 (by rw[n10];decide),B0e hm,_,rfl,_,_,rfl,rfl,by show 1+(S acc).length<=sizeLine;rw[B0];exact A2 (by omega),?_⟩
   show Q (.str (S [48+m]++S acc)) H2
   rw[D0]
   exact k H2 s2
noncomputable def B0w:Sp:=fun vs H Q _=>∃x:Nm,vs=[.int x.s,.int x.f,.int x.p]/\x.Ok/\x.k= .plain/\∀H',Same H H' ->Q (.str (S (wrL x))) H'
theorem scLText:FnScope ["_law_sign","_law_figures_here","_law_power","_law_digits_here","_law_ahead","_law_first","_law_point","_law_shown_here"] ["_law_sign","_law_figures_here","_law_power"] (A6 A5g):=scK
theorem B3v (D:Def K mg "_law_text" ["_law_sign","_law_figures_here","_law_power"] A5g f fd) (dA:Def K mg "_law_digits" ["_law_number"] Z8 f1 fd1) (dB:FnOk P w K mg base (CX1 P w) 1 f1 fd1 ["_law_number"] A1w) (O:Own mg):FnOk P w K mg base (CX1 P w) 2 f fd ["_law_sign","_law_figures_here","_law_power"] B0w:=by
 refine D.F.okE scLText (fun vs H Q E h=>?_) (fun X cdv A outer s H vs Q E hX hr hx h=>?_)
 . obtain⟨x,rfl,_⟩:=h
   rfl
 . subst hX
   obtain⟨x,rfl,ok,hk,k⟩:=h
   have f0:=ok.f0;have f1:=ok.f1;have p0:=ok.p0;have p1:=ok.p1;have s0:=ok.s0;have s1:=ok.s1
   have fl:=A3y ok
   have lb:=B7s ok
   refine⟨_,(A1 (A5 (B4 (i:=3) scLText.nd rfl (Or.inl rfl) (B8 dA dB hr hx (A0 (pv 1) A4))))
     (A1 (A5 (B4 (i:=4) scLText.nd rfl (Or.inl rfl) (A8 V3 B1 (pv 0))))
     (A1 (A5 (B4 (i:=5) scLText.nd rfl (Or.inl rfl) (A8 V1 (pv 2) (A8 J0 (A8 V7 (D3 D4 (by rfl) O.len_ PySem.boot_len (A0 (pv 3) A4)) A3) (G3 A0t (by rfl) O.int_ boot_int (A0 (U0 A4b (pv 1) A3 (B7 _)) A4))))))
     (A1 (A5 (G4 (PW.pt (A4u (B9 A4b (pv 2) A3 (B7 _)) (A4a (B9 A6r (pv 5) (A3p A0y A3) (B7 _))))) (A1 (A5 (B4 (i:=6) scLText.nd rfl (Or.inl rfl) (A8 V3 B1 (G3 A0t (by rfl) O.int_ boot_int (A0 (U0 A4b (D3 D4 (by rfl) O.len_ PySem.boot_len (A0 (pv 3) A4)) A3 (B7 _)) A4)))))
     (A1 (A5 (B4 (i:=7) scLText.nd rfl (Or.inl rfl) (A8 B3 (A8 B3 (A8 B3 (pv 4) (J9 A1r (pv 3) A3 (fun _ _=>rfl))) (pv 6)) (U2 A0v (pv 3) (V4 A3) V6))))
     (A7 (B5 (A8 B3 (A8 B3 (A8 B3 (pv 7) B1) (J9 A1r B1 (G3 A0t (by rfl) O.int_ boot_int (A0 (U0 A6r (pv 5) A3 (B7 _)) A4)) (fun _ _=>rfl))) (B8 dA dB hr hx (A0 (D3 A7s (by rfl) O.abs_ boot_abs (A0 (pv 5) A4)) A4))))))) C6))
     (A1 (A5 (G4 (B9 U1 (pv 2) A3 (B7 _)) (A7 (B5 (A8 B3 (pv 4) (pv 3)))) C6))
     (A1 (A5 (A6y PassesOwn.leaving (B9 A6r (D3 D4 (by rfl) O.len_ PySem.boot_len (A0 (pv 3) A4)) (A8 V7 A3 (pv 2)) (B7 _)) (A7 (A5 (B4 (i:=3) scLText.nd rfl (Or.inl rfl) (A8 B3 B1 (pv 3)))))))
     (A7 (B5 (A8 B3 (A8 B3 (A8 B3 (pv 4) (U2 A0v (pv 3) V6 (V4 (pv 2)))) B1) (U2 A0v (pv 3) (V4 (pv 2)) V6)))))))))),?_⟩
   have ew:wrL x=mkL x++wwL x:=by
     unfold wrL
     rw[if_neg (by rw[hk];decide),if_neg (by rw[hk];decide)]
   have ne:fgL x≠ []:=A0j _
   have ml:(mkL x).length<=1:=by unfold mkL;split<;>decide
   have e60:((10^60:Nat):Int)=10^60:=by decide+kernel
   have nD:(".":Str).length=1:=by decide+kernel
   have nE:("e":Str).length=1:=by decide+kernel
   have nM:("-":Str).length=1:=by decide+kernel
   have n0:("0":Str).length=1:=by decide+kernel
   have mC:∀z n:Int, -(2^64)<n ->n<2^64 ->IntMulOk n z:=fun z n a b=>CMul.ok (.inl ⟨a,b⟩)
   refine⟨fun σ' H'=>Same H H'/\σ'=[some (.int x.s),some (.int x.f),some (.int x.p),some (.str (S (fgL x))),none,none,none,none],⟨_,rfl,x.f.toNat,by rw[Int.toNat_of_nonneg f0];rfl,by omega,fun H' s'=>⟨s',rfl⟩⟩,?_⟩
   rintro σ' H1 ⟨s1',rfl⟩
   refine⟨fun σ' H'=>H'=H1/\σ'=[some (.int x.s),some (.int x.f),some (.int x.p),some (.str (S (fgL x))),some (.str (S (mkL x))),none,none,none],?_,?_⟩
   . refine⟨_,rfl,_,_,rfl,rfl,by omega,by omega,by rw[nM];exact A2 (by omega),rfl,?_⟩
     have:U3 "-" x.s=S (mkL x):=by
       rw[litM, <-Int.toNat_of_nonneg s0,A2v]
       unfold mkL
       rcases(by omega:x.s=0\/x.s=1) with q|q<;>rw[q]<;>rfl
     rw[<-this]
     rfl
   rintro σ' H2 ⟨rfl,rfl⟩
   refine⟨fun σ' H'=>H'=H2/\σ'=[some (.int x.s),some (.int x.f),some (.int x.p),some (.str (S (fgL x))),some (.str (S (mkL x))),some (.int (ldW x)),none,none],?_,?_⟩
   . refine⟨_,rfl,_,rfl,_,rfl,A2 (by rw[B0];omega),_,_,rfl,rfl,_,rfl,_,_,rfl,rfl,.inr ⟨_,rfl,_,_,rfl,rfl,mC _ _ (by rw[B0];omega) (by rw[B0];omega),_,_,rfl,rfl,rfl,?_⟩⟩
     have:x.p+(((S (fgL x)).length:Int)-1)*(if decide (0<x.f)=true then 1 else 0)=ldW x:=by
       unfold ldW
       rw[B0]
       by_cases h:x.f=0
       . rw[if_pos h,decide_eq_false (by omega)]
         simp
       . rw[if_neg h,decide_eq_true (by omega)]
         simp
         omega
     rw[<-this]
     rfl
   rintro σ' H3 ⟨rfl,rfl⟩
   refine⟨fun σ' H'=>H'=H3/\(x.p<=0/\ldW x>= -6)/\σ'=[some (.int x.s),some (.int x.f),some (.int x.p),some (.str (S (fgL x))),some (.str (S (mkL x))),some (.int (ldW x)),none,none],?_,?_⟩
   . refine have A:¬(x.p<=0/\ldW x>= -6) ->_:= ?A;⟨_,rfl,_,_,rfl,rfl,_,rfl,U4 (fun h=>A (fun q=>absurd (show x.p>0 from h) (by omega))) (fun h=>⟨_,rfl,_,rfl,_,_,rfl,rfl,_,rfl,U4 (fun h2=>A (fun q=>absurd (show ldW x< -6 from h2) (by omega))) (fun h2=>⟨rfl,⟨Int.not_lt.mp h,Int.not_lt.mp h2⟩,rfl⟩)⟩)⟩
     intro hh
     have ew2:wrL x=mkL x++wlL (fgL x) (ldW x):=by
       rw[ew]
       unfold wwL
       rw[if_neg hh]
     rw[ew2] at k
     refine⟨fun σ' H'=>H'=H3/\σ'=[some (.int x.s),some (.int x.f),some (.int x.p),some (.str (S (fgL x))),some (.str (S (mkL x))),some (.int (ldW x)),some (.str (S (if(fgL x).length>1 then [46] else []))),none],?_,?_⟩
     . refine⟨_,rfl,_,rfl,A2 (by rw[B0];omega),_,_,rfl,rfl,.inr ⟨_,rfl,_,_,rfl,rfl,?_,?_,?_,rfl,?_⟩⟩
       . split<;>decide
       . split<;>decide
       . rw[nD];split<;>exact A2 (by decide)
       . have:U3 "." (if decide ((1:Int)<((S (fgL x)).length:Int))=true then 1 else 0)=S (if(fgL x).length>1 then [46] else []):=by
           rw[B0,Z7]
           by_cases h:(fgL x).length>1
           . rw[if_pos h,decide_eq_true (by omega),if_pos rfl]
             exact A2v 46 1
           . rw[if_neg h,decide_eq_false (by omega),if_neg Bool.false_ne_true]
             exact A2v 46 0
         rw[<-this]
         rfl
     rintro σ' H4 ⟨rfl,rfl⟩
     obtain⟨c,t,et⟩:∃c t,fgL x=c::t:=by
       cases e:fgL x with
       |nil=>exact absurd e ne
       |cons c t=>exact⟨c,t,rfl⟩
     have cu:A2s (S (fgL x)) (some 1) none=S t:=by
       rw[et]
       exact A0a (c::t) 1 (Nat.succ_le_succ (Nat.zero_le _))
     have pp:(if(fgL x).length>1 then [46] else [])++t=(if(fgL x).length>1 then 46::(fgL x).drop 1 else []):=by
       rw[et]
       by_cases h:(c::t).length>1
       . rw[if_pos h,if_pos h]
         rfl
       . rw[if_neg h,if_neg h]
         show t=[]
         exact List.eq_nil_of_length_eq_zero (by rw[List.length_cons] at h;omega)
     have pl:(if(fgL x).length>1 then [46] else []).length<=1:=by split<;>decide
     have tl:t.length<=60:=by rw[et,List.length_cons] at fl;omega
     have sc:∀c:Nat,(⟨#[c]⟩:Str)=S [c]:=fun _=>rfl
     generalize hpt:(if(fgL x).length>1 then [46] else [])=pt at pp pl ⊢
     refine⟨fun σ' H'=>H'=H4/\σ'=[some (.int x.s),some (.int x.f),some (.int x.p),some (.str (S (fgL x))),some (.str (S (mkL x))),some (.int (ldW x)),some (.str (S pt)),some (.str (S (mkL x++ [c]++pt++t)))],?_,?_⟩
     . refine⟨_,rfl,_,rfl,S (fgL x),0,c,rfl,rfl,A2 (by rw[B0];omega),by rw[et];exact G0 (j:=0) rfl,_,_,rfl,rfl,?_,_,rfl,_,_,rfl,rfl,?_,_,rfl,_,rfl,S (fgL x),rfl,?_,_,_,rfl,rfl,?_,rfl,?_⟩
       . rw[sc,B0,B0];exact A2 (by show _+1<=1000;omega)
       . rw[sc,D0,B0,B0,List.length_append];exact A2 (by show _+1+_<=1000;omega)
       . rw[cu,B0];exact A2 (by omega)
       . rw[sc,D0,D0,cu,B0,B0,List.length_append,List.length_append];exact A2 (by show _+1+_+_<=1000;omega)
       . rw[<-D0, <-D0, <-D0, <-cu]
         rfl
     rintro σ' H5 ⟨rfl,rfl⟩
     have ea:(if ldW x<0 then -ldW x else ldW x)=((ldW x).natAbs:Int):=by split<;>omega
     have dl:(dig (ldW x).natAbs).length<=4:=Y8 (by omega) (by decide)
     have al:(mkL x++ [c]++pt++t).length<=100:=by
       rw[List.length_append,List.length_append,List.length_append]
       show _+1+_+_<=100
       omega
     have at_:atI ("+-":Str).cps.toList (if decide (ldW x<0)=true then 1 else 0)=some (if ldW x<0 then 45 else 43):=by
       by_cases h:ldW x<0
       . rw[if_pos h,decide_eq_true h]
         decide+kernel
       . rw[if_neg h,decide_eq_false h]
         decide+kernel
     refine⟨_,rfl,_,_,rfl,rfl,?_,_,rfl,_,_,rfl,rfl,.inr ⟨_,rfl,"+-",_,_,rfl,rfl,A2 (by decide+kernel),at_,_,_,rfl,rfl,?_,_,rfl,ldW x,rfl,(ldW x).natAbs,by rw[<-ea];rfl,?_,fun H' s'=>⟨_,_,rfl,rfl,?_,?_⟩⟩⟩
     . rw[B0,nE];exact A2 (by omega)
     . rw[sc,litE,D0,B0,B0,List.length_append];exact A2 (by show _+1+1<=1000;omega)
     . have:(10:Nat)^3<=10^60:=Nat.pow_le_pow_right (by decide) (by decide)
       omega
     . rw[sc,litE,D0,D0,B0,B0,List.length_append,List.length_append];exact A2 (by show _+1+1+_<=1000;omega)
     . have k:=k H' (s1'.trans s')
       rw[sc,litE,D0,D0,D0]
       have eq:mkL x++ [c]++pt++t++ [101]++ [if ldW x<0 then 45 else 43]++dig (ldW x).natAbs=mkL x++wlL (fgL x) (ldW x):=by
         unfold wlL
         rw[<-pp,et]
         have a2:(if ldW x<0 then [45] else [43])=[if ldW x<0 then 45 else 43]:=by split<;>rfl
         rw[a2]
         simp
       rw[eq]
       exact k
   rintro σ' H4 ⟨rfl,hp,rfl⟩
   have ew2:wrL x=mkL x++wpL (fgL x) (-x.p).toNat:=by
     rw[ew]
     unfold wwL
     rw[if_pos hp]
   rw[ew2] at k
   refine⟨fun σ' H'=>H'=H4/\x.p≠0/\σ'=[some (.int x.s),some (.int x.f),some (.int x.p),some (.str (S (fgL x))),some (.str (S (mkL x))),some (.int (ldW x)),none,none],?_,?_⟩
   . refine⟨_,rfl,rfl,_,rfl,U4 (fun h=>?_) (fun h=>⟨rfl,fun q=>h (congrArg V.int q),rfl⟩)⟩
     have h:x.p=0:=V.int.inj h
     refine⟨_,rfl,_,rfl,_,_,rfl,rfl,by rw[B0,B0];exact A2 (by omega),?_⟩
     have k:=k H4 s1'
     rw[D0]
     unfold wpL at k
     rw[if_pos (by omega)] at k
     exact k
   rintro σ' H5 ⟨rfl,hz,rfl⟩
   obtain⟨b,hb⟩:∃b:Nat,x.p= -(b:Int):=⟨(-x.p).toNat,by omega⟩
   have bn:(-x.p).toNat=b:=by omega
   rw[bn] at k
   have b1:1<=b:=by omega
   have b2:b<=200:=by omega
   have fL:(C0 (fgL x) b).length=if b+1<=(fgL x).length then(fgL x).length else b+1:=by
     unfold C0
     rw[List.length_append,List.length_replicate]
     split<;>omega
   refine⟨fun σ' H'=>H'=H5/\σ'=[some (.int x.s),some (.int x.f),some (.int x.p),some (.str (S (C0 (fgL x) b))),some (.str (S (mkL x))),some (.int (ldW x)),none,none],?_,?_⟩
   . refine A6p (fun σ H6=>H6=H5/\∃j:Nat,j<=b+1-(fgL x).length/\σ=[some (.int x.s),some (.int x.f),some (.int x.p),some (.str (S (List.replicate j 48++fgL x))),some (.str (S (mkL x))),some (.int (ldW x)),none,none]) (fun σ _=>match σ with| [_,_,_,some (.str z),_,_,_,_]=>1000-z.length|_=>0) ⟨rfl,0,Nat.zero_le _,rfl⟩ ?_ ?_
     . rintro σ H6 ⟨rfl,j,hj,rfl⟩
       have jl:(S (List.replicate j 48++fgL x)).length=j+(fgL x).length:=by rw[B0,List.length_append,List.length_replicate]
       refine⟨_,rfl,_,rfl,A2 (by rw[jl];omega),_,rfl,_,_,rfl,rfl,_,_,rfl,rfl,_,rfl,U4 (fun h=>?_) (fun h=>?_)⟩
       . have h:((S (List.replicate j 48++fgL x)).length:Int)<1-x.p:=h
         rw[jl] at h
         have e2:("0":Str)++S (List.replicate j 48++fgL x)=S (List.replicate (j+1) 48++fgL x):=by
           rw[B3j,D0]
           rfl
         refine⟨_,?_,fun _ _ h=>h⟩
         refine⟨_,rfl,_,_,rfl,rfl,by rw[n0,jl];exact A2 (by omega),⟨rfl,j+1,by omega,?_⟩,?_⟩
         . rw[<-e2]
           rfl
         . show 1000-(("0":Str)++S (List.replicate j 48++fgL x)).length<1000-(S (List.replicate j 48++fgL x)).length
           rw[strLen_append,n0,jl]
           omega
       . have h:¬((S (List.replicate j 48++fgL x)).length:Int)<1-x.p:=h
         rw[jl] at h
         refine⟨rfl,?_⟩
         unfold C0
         rw[show j=b+1-(fgL x).length by omega]
     . rintro σ H6 Q1 Q2 hQ ⟨v1,e1,z1,e2,l1,v2,e3,a1,a2,f1,f2,c1,c2,g1,g2,bb,eb,q⟩
       exact⟨v1,e1,z1,e2,l1,v2,e3,a1,a2,f1,f2,c1,c2,g1,g2,bb,eb,hQ _ _ q⟩
   rintro σ' H6 ⟨rfl,rfl⟩
   unfold wpL at k
   rw[if_neg (by omega)] at k
   have fb:b<=(C0 (fgL x) b).length/\(C0 (fgL x) b).length<=400:=by
     rw[fL]
     split<;>omega
   generalize C0 (fgL x) b=m at fb k
   have t1:=A6t m b (by omega) b1
   have t2:=B3f m b (by omega) b1
   rw[<-hb] at t1 t2
   have k1:(m.take (m.length-b)).length<=400:=by rw[List.length_take];omega
   have k2:(m.drop (m.length-b)).length<=400:=by rw[List.length_drop];omega
   refine⟨_,rfl,_,rfl,_,rfl,_,rfl,S m,rfl,by rw[t1,B0];exact A2 (by omega),_,_,rfl,rfl,by rw[t1,B0,B0];exact A2 (by omega),_,_,rfl,rfl,by rw[t1,D0,B0,nD,List.length_append];exact A2 (by omega),_,rfl,_,rfl,_,rfl,S m,rfl,by rw[t2,B0];exact A2 (by omega),_,_,rfl,rfl,by rw[t1,t2,Z7,D0,D0,B0,B0,List.length_append,List.length_append];exact A2 (by show _+_+1+_<=1000;omega),?_⟩
   rw[t1,t2,Z7,D0,D0,D0,List.append_assoc,List.append_assoc]
   exact k H6 s1'
noncomputable def A7p:Sp:=fun vs H Q _=>∃(x:Nm) (c:Int),vs=[.str (S (wrL x)),.int c]/\x.Ok/\(∀up plus,∀a b:Nat,(plus=true ->x.k≠ .none/\x.s≠1) ->a<=2 ->b<=2 ->Q (.str (S (A0c up plus a b (wrL x)))) H)
theorem scLShown:FnScope ["_law_text_here","_law_cell"] ["_law_text_here","_law_cell"] (A6 A2z):=scK
theorem B1g(D:Def K mg "_law_shown" ["_law_text_here","_law_cell"] A2z f fd):FnOk P w K mg base (CX1 P w) 1 f fd ["_law_text_here","_law_cell"] A7p:=by
 refine D.F.okE scLShown (fun vs H Q E h=>?_) (fun X cdv A outer s H vs Q E hX hr hx h=>?_)
 . obtain⟨x,c,rfl,_⟩:=h
   rfl
 . subst hX
   obtain⟨x,c,rfl,ok,k⟩:=h
   refine⟨_,(A1 (A5 (G4 (B9 U1 (A8 D6 (pv 1) A3) A3 (B7 _)) (A7 (A5 (B4 (i:=0) scLShown.nd rfl (Or.inl rfl) (A8s PySem.F.plainAttrs_str PySem.F.slot_str_upper PySem.F.type_str_upper B3g (pv 0))))) C6))
     (A1 (A5 (G4 (PW.pt (A9b (B9 U1 (A8 D6 (A8 G2 (pv 1) A3) A3) A3 (B7 _)) (A9b (B9 A7k (J9 A1r (pv 0) A3 (fun _ _=>rfl)) B1 (B7 _)) (B0j (B9 A7k (A8s PySem.F.plainAttrs_str PySem.F.slot_str_lower PySem.F.type_str_lower A6g (pv 0)) B1 (B7 _)))))) (A7 (A5 (B4 (i:=0) scLShown.nd rfl (Or.inl rfl) (A8 B3 B1 (pv 0))))) C6))
     (A7 (B5 (A8 B3 (A8 B3 (A8 V3 B1 (A8 D6 (A8 G2 (pv 1) A3) A3)) (pv 0)) (A8 V3 B1 (A8 D6 (A8 G2 (pv 1) A3) A3))))))),?_⟩
   have sg:=B8a x
   have wl:=B3p ok
   obtain⟨d,t,ew,hd⟩:=B6w x
   have d2:(0:Int)<2/\(2:Int).natAbs.log2<9000:=⟨by decide,by decide+kernel⟩
   have cl:∀up,(G5 up (wrL x)).length=(wrL x).length:=fun up=>by
     unfold G5
     split
     . rw[List.length_map]
     . rfl
   have c128:∀c∈wrL x,c<128:=fun c hc=>by
     have:=sg c hc
     unfold Sg at this
     omega
   refine⟨fun σ' H'=>∃up,H'=H/\σ'=[some (.str (S (G5 up (wrL x)))),some (.int c)],?_,?_⟩
   . refine⟨_,rfl,_,_,rfl,rfl,d2.1,rfl,_,rfl,U4 (fun h=>?_) (fun h=>⟨false,rfl,rfl⟩)⟩
     have eu:=B6h c128
     refine⟨fun σ' H'=>∃up,H'=H/\σ'=[some (.str (S (G5 up (wrL x)))),some (.int c)],?_,fun _ _ h=>h⟩
     refine⟨_,rfl,rfl,S (wrL x),rfl,rfl,by rw[eu,B0,List.length_map];exact A2 (by omega),true,rfl,?_⟩
     rw[show S (G5 true (wrL x))=Txt.upper (S (wrL x)) from eu.symm]
     rfl
   rintro σ' H1 ⟨up,rfl,rfl⟩
   obtain⟨d',t',ec,hd'⟩:∃d' t',G5 up (wrL x)=d'::t'/\(d=45 ->d'=45):=by
     rw[ew]
     cases up with
     |true=>exact⟨up1 d,t.map up1,rfl,fun q=>by rw[q];rfl⟩
     |false=>exact⟨d,t,rfl,id⟩
   have cc:∀c∈G5 up (wrL x),c<128:=fun c hc=>by
     unfold G5 at hc
     split at hc
     . obtain⟨b,hb,rfl⟩:=List.mem_map.mp hc
       have:=c128 b hb
       unfold up1
       split<;>omega
     . exact c128 c hc
   have lw:Txt.lower (S (G5 up (wrL x)))=S (wrL x):=by rw[B0p cc,B0m sg]
   have cl:=cl up
   refine⟨fun σ' H'=>∃plus,(plus=true ->x.k≠ .none/\x.s≠1)/\H'=H1/\σ'=[some (.str (S ((if plus=true then [43] else [])++G5 up (wrL x)))),some (.int c)],?_,?_⟩
   . have no:∃plus:Bool,(plus=true ->x.k≠ .none/\x.s≠1)/\H1=H1/\ [some (V.str (S (G5 up (wrL x)))),some (.int c)]=[some (.str (S ((if plus=true then [43] else [])++G5 up (wrL x)))),some (.int c)]:=⟨false,(fun q=>nomatch q),rfl,rfl⟩
     refine⟨_,rfl,_,_,rfl,rfl,d2,_,_,rfl,rfl,d2.1,rfl,_,rfl,U4 (fun h=>?_) (fun h=>no)⟩
     refine⟨_,rfl,S (G5 up (wrL x)),0,d',rfl,rfl,by rw[B0];exact A2 (by omega),by rw[ec];exact G0 (j:=0) rfl,rfl,_,rfl,?_⟩
     have ev:∀a b:Str,decide (V.str a=V.str b)=decide (a=b):=fun a b=>decide_eq_decide.mpr ⟨fun z=>by injection z,fun z=>by rw[z]⟩
     rw[ev]
     by_cases h1:(⟨#[d']⟩:Str)="-"
     . rw[decide_eq_true h1]
       exact U6 no
     . rw[decide_eq_false h1]
       refine Z9 ⟨_,rfl,rfl,S (G5 up (wrL x)),rfl,rfl,by rw[lw,B0];exact A2 (by omega),rfl,_,rfl,?_⟩
       rw[ev,lw]
       by_cases h2:S (wrL x)="none"
       . rw[decide_eq_true h2]
         exact U6 no
       . rw[decide_eq_false h2]
         have hk:x.k≠ .none:=fun q=>h2 (by unfold wrL;rw[if_pos q];exact litNone.symm)
         have hs:x.s≠1:=fun q=>h1 (by rw[hd' (hd hk q)];exact litM.symm)
         have n1:("+":Str).length=1:=by decide+kernel
         refine Z9 ⟨fun σ' H'=>∃plus,(plus=true ->x.k≠ .none/\x.s≠1)/\H'=H1/\σ'=[some (.str (S ((if plus=true then [43] else [])++G5 up (wrL x)))),some (.int c)],?_,fun _ _ h=>h⟩
         refine⟨_,rfl,_,_,rfl,rfl,by rw[n1,B0];exact A2 (by omega),true,fun _=>⟨hk,hs⟩,rfl,?_⟩
         rw[if_pos rfl, <-D0, <-B6v]
         rfl
   rintro σ' H2 ⟨plus,hp,rfl,rfl⟩
   have a1:=Int.emod_lt_of_pos (c/4) (show(0:Int)<3 by decide)
   have a2:=Int.emod_nonneg (c/4) (show(3:Int)≠0 by decide)
   have b1:=Int.emod_lt_of_pos (c/12) (show(0:Int)<3 by decide)
   have b2:=Int.emod_nonneg (c/12) (show(3:Int)≠0 by decide)
   have ls:(" ":Str)=S [32]:=by decide+kernel
   have tm:∀i:Int,0<=i ->U3 " " i=S (List.replicate i.toNat 32):=fun i hi=>by
     rw[ls, <-A2v,Int.toNat_of_nonneg hi]
   have n1:(" ":Str).length=1:=by decide+kernel
   have pl:((if plus=true then [43] else [])++G5 up (wrL x)).length<=364:=by
     rw[List.length_append,cl]
     split
     . show 1+_<=364
       omega
     . show 0+_<=364
       omega
   have k:=k up plus (c/4 % 3).toNat (c/12 % 3).toNat hp (by omega) (by omega)
   unfold A0c at k
   rw[<-D0, <-D0, <-tm _ a2, <-tm _ b2] at k
   refine⟨_,rfl,_,_,rfl,rfl,⟨by decide,by decide+kernel⟩,_,_,rfl,rfl,(by decide:(0:Int)<3),_,_,rfl,rfl,by omega,by omega,?_,_,rfl,_,_,rfl,rfl,?_,_,rfl,_,_,rfl,rfl,⟨by decide,by decide+kernel⟩,_,_,rfl,rfl,(by decide:(0:Int)<3),_,_,rfl,rfl,by omega,by omega,?_,_,_,rfl,rfl,?_,k⟩
   . rw[n1];exact A2 (by omega)
   . rw[tm _ a2,B0,B0,List.length_replicate];exact A2 (by omega)
   . rw[n1];exact A2 (by omega)
   . rw[strLen_append,tm _ a2,tm _ b2,B0,B0,B0,List.length_replicate,List.length_replicate];exact A2 (by omega)
end
noncomputable abbrev A3a:Stmt:=(top 37)
noncomputable abbrev A2u:Stmt:=(top 41)
section
variable{P:Program}{w:World}{K:Frag}{mg:Str ->Option Value}{base:Heap}
noncomputable def A7g:Sp:=fun vs H Q _=>∃t x,vs=[.ref t]/\H t=some (.tup (Nm.vs x))/\∀H',Same H H' ->Q (.bl true) H'
theorem B4f:FnScope ["_law_found"] ["_law_found"] (A6 A3a):=scK
theorem B2n(D:Def K mg "_law_is_clean" ["_law_found"] A3a f fd)(O:Own mg)(T:Kit K):FnOk P w K mg base (CX1 P w) 1 f fd ["_law_found"] A7g:=by
 refine D.F.okE B4f (fun vs H Q E h=>?_) (fun X cdv A outer s H vs Q E hX hr hx h=>?_)
 . obtain⟨t,x,rfl,_⟩:=h
   rfl
 . subst hX
   obtain⟨t,x,rfl,et,k⟩:=h
   have hu:=hr.units
   refine⟨_,(A1 (A5 (G4 (PW.pt (A4u (V2 (G7 (A1g O.isi (pv 0) (pty O.tuple_ boot_tuple)))) (A4u (B9 A7k (D3 A1k (by rfl) O.len_ PySem.boot_len (A0 (pv 0) A4)) A3 (B7 _)) (A4a (V2 (G7 (A1g O.isi (J9 A0w (pv 0) A3 (fun _ _=>rfl)) (pty O.str_ boot_str)))))))) (A7 (B5 A2h)) C6))
     (A7 (B5 (D3 (B4c hr.hd) (by rfl) O.all_ boot_all (A0 (B4t (N:=["_law_one"]) ⟨rfl,by decide+kernel,by decide+kernel,by decide+kernel,by decide+kernel⟩ (.inl hr.hd) (B7p (U2 B9y (pv 0) (V4 A3) V6)) rfl (fun C s₀ H₀ ex pn h=>V5 (i:=0) (by decide+kernel:(["_law_one"]:List Str).Nodup) rfl (Or.inl rfl)) (fun C s₀ H₀ ex pn h=>(A3c (B8c (K:=K) rfl O.isi (pv 0) (pty O.int_ boot_int)) (A3g (B9n (B8c (K:=K) rfl O.isi (pv 0) (pty O.bool_ boot_bool))))))) A4))))),?_⟩
   refine⟨fun σ' H'=>H'=H/\σ'=[some (.ref t)],?_,?_⟩
   . refine⟨_,rfl,_,_,_,_,true,rfl,rfl,B3u et,T.tuple_tuple,_,rfl,U6 ?_⟩
     refine⟨_,rfl,t,_,rfl,.inr (SqT.of et),rfl,_,rfl,?_⟩
     refine U6 ⟨_,rfl,t,_,_,_,rfl,rfl,SqT.of et,G0 (j:=0) rfl,_,_,_,_,true,rfl,rfl,B0v _,T.str_str,_,rfl,U6 ⟨rfl,rfl⟩⟩
   rintro σ' H2 ⟨rfl,rfl⟩
   refine⟨_,rfl,1,rfl,t,x.vs,rfl,SqT.of et,(fun z=>absurd (show HT.sIx 4 0 (some 1)=0 from z.1) (by decide)),fun p np=>⟨p,rfl,⟨_,SqT.of A9⟩,?_⟩⟩
   have u1:=Same.upd (o:= .tup (A8f x.vs (some 1) none)) np
   have ep:upd H2 p (.tup (A8f x.vs (some 1) none)) p=some (.tup [.int x.s,.int x.f,.int x.p]):=A9
   generalize upd H2 p (.tup (A8f x.vs (some 1) none))=G at*
   refine B0z (J:=Itt K p) (n:=3) (fun _ y _=>y= .bl true) (by decide) (fun _ _ _ _ _ _ h _ _=>h) (fun i H3 Qy hi sm hy=>?_) (fun H3 sm=>⟨_,SqT.of (sm _ _ ep),Nat.le_refl 3⟩) (fun D H' ys sm nD eD hlen hR=>?_)
   . obtain⟨j,hj⟩:∃j:Int,([.int x.s,.int x.f,.int x.p]:List V)[i]?=some (.int j):=by
       rcases(by omega:i=0\/i=1\/i=2) with rfl|rfl|rfl<;>exact⟨_,rfl⟩
     refine⟨⟨_,_,SqT.of (sm _ _ ep),hj⟩,fun y H4 yl=>?_⟩
     obtain⟨rfl,yl⟩:=yl
     have e:=yl _ (SqT.of (sm _ _ ep))
     rw[hj] at e
     obtain rfl:=(Option.some.inj e).symm
     exact⟨_,rfl,_,_,_,_,true,rfl,rfl,A6j j,T.int_int,_,rfl,Z9 ⟨_,rfl,_,_,_,_,false,rfl,rfl,A6j j,T.int_bool,_,rfl,hy _ _ (Same.refl _) rfl⟩⟩
   . have ey:ys=[true,true,true].map V.bl:=by
       match ys,hlen with
       | [a,b,c],_=>rw[hR 0 a rfl,hR 1 b rfl,hR 2 c rfl];rfl
     refine⟨D,[true,true,true],rfl,SqL.of (by rw[eD,ey]),k _ (u1.trans sm)⟩
noncomputable def A7a (CN:Addr):Sp:=fun vs H Q _=>∃n x,∃c:Int,vs=[.ref n,.str (S (wrL x)),.int c]/\NumIs CN H n x/\x.Ok/\(x.k= .end_ ->x.f=0/\x.p=0)/\(x.k= .none ->x.s=0/\x.f=0/\x.p=0)/\∀H',Same H H' ->Q (.bl true) H'
theorem scLRound:FnScope ["_law_number","_law_text_here","_law_cell","_law_turn","_law_found","_law_again"] ["_law_number","_law_text_here","_law_cell"] (A6 A2u):=scK
theorem B1w{f f1 f2 f3 f4 f5 CN CB:Addr}(D:Def K mg "_law_round" ["_law_number","_law_text_here","_law_cell"] A2u f fd)(dC:Def K mg "written" ["number"] A0k f1 fd1)(dD:FnOk P w K mg base (CX1 P w) 3 f1 fd1 ["number"] (A1v K CN CB))(dA:Def K mg "told" ["number"] A9q f2 fd2)(dB:FnOk P w K mg base (CX1 P w) 2 f2 fd2 ["number"] (B2x K CN CB))(dE:Def K mg "read" ["text"] A9u f3 fd3)(dF:FnOk P w K mg base (CX1 P w) 5 f3 fd3 ["text"] (B2y CN))(dG:Def K mg "_law_shown" ["_law_text_here","_law_cell"] A2z f4 fd4)(dH:FnOk P w K mg base (CX1 P w) 1 f4 fd4 ["_law_text_here","_law_cell"] A7p)(dJ:Def K mg "_law_is_clean" ["_law_found"] A3a f5 fd5)(dL:FnOk P w K mg base (CX1 P w) 1 f5 fd5 ["_law_found"] A7g)(O:Own mg)(T:Kit K):FnOk P w K mg base (CX1 P w) 6 f fd ["_law_number","_law_text_here","_law_cell"] (A7a CN):=by
 refine D.F.okE scLRound (fun vs H Q E h=>?_) (fun X cdv A outer s H vs Q E hX hr hx h=>?_)
 . obtain⟨n,x,c,rfl,_⟩:=h
   rfl
 . subst hX
   obtain⟨n,x,c,rfl,hn,ok,he,hnn,k⟩:=h
   refine⟨_,(A1 (A5 (A8j PassesOwn.leaving rfl (A1s rfl O.range_ (A0 A3 A4)) (V5 (i:=3) scLRound.nd rfl (Or.inl rfl)) (A1 (A5 (B4 (i:=4) scLRound.nd rfl (Or.inl rfl) (B8 dC dD hr hx (A0 (pv 0) A4))))
     (A1 (A5 (G4 (PW.pt (A4u (V2 (G7 (A1g O.isi (pv 4) (pty O.str_ boot_str)))) (A4a (B9 A7k (pv 4) (pv 1) (B7 _))))) (A7 (B5 A2h)) C6))
     (A1 (A5 (B4 (i:=5) scLRound.nd rfl (Or.inl rfl) (B8 dA dB hr hx (A0 (B8 dE dF hr hx (A0 (B8 dG dH hr hx (A0 (pv 4) (A0 (A8 G2 (pv 2) (A8 V1 A3 (A8 J0 A3 (pv 3)))) A4))) A4)) A4))))
     (A7 (A5 (G4 (PW.pt (A4u (B9 (B9g hr.units) (pv 5) (B8 dA dB hr hx (A0 (pv 0) A4)) (B7 _)) (A4a (V2 (G7 (B8 dJ dL hr hx (A0 (pv 5) A4))))))) (A7 (B5 A2h)) C6))))))))
     (A7 (B5 A2h))),?_⟩
   refine⟨fun σ' H'=>Same H H'/\∃v1 v2 v3,σ'=[some (.ref n),some (.str (S (wrL x))),some (.int c),v1,v2,v3],⟨2,rfl,by decide,by decide,A1z (n:=2) (fun i σ' H'=>Same H H'/\∃v1 v2 v3,σ'=[some (.ref n),some (.str (S (wrL x))),some (.int c),v1,v2,v3]) ⟨Same.refl _,none,none,none,rfl⟩ ?_ (fun σ' H' h=>h)⟩,?_⟩
   . rintro i σ' H1 hi ⟨s1,v1,v2,v3,rfl⟩
     have wl:=B3p ok
     have n1:=hn.same s1
     have shl:∀up plus (a b:Nat),a<=2 ->b<=2 ->(S (A0c up plus a b (wrL x))).length<=400:=fun up plus a b ha hb=>by
       rw[B0]
       unfold A0c
       have cl:(G5 up (wrL x)).length=(wrL x).length:=by
         unfold G5
         split
         . rw[List.length_map]
         . rfl
       have pl:(if plus=true then [43] else []).length<=1:=by split<;>decide
       rw[List.length_append,List.length_append,List.length_append,List.length_replicate,List.length_replicate,cl]
       omega
     have pl2:∀plus:Bool,(S ((if plus=true then [43] else [])++wrL x)).length<=400:=fun plus=>by
       rw[B0,List.length_append]
       have pl:(if plus=true then [43] else []).length<=1:=by split<;>decide
       omega
     refine⟨fun σ' H'=>H'=H1/\σ'=[some (.ref n),some (.str (S (wrL x))),some (.int c),some (.int (0+(i:Int))),some (.str (S (wrL x))),v3],⟨_,rfl,_,rfl,.inl ⟨n,x,rfl,n1,ok,rfl,rfl⟩⟩,?_⟩
     rintro σ' H2 ⟨rfl,rfl⟩
     refine⟨fun σ' H'=>H'=H2/\σ'=[some (.ref n),some (.str (S (wrL x))),some (.int c),some (.int (0+(i:Int))),some (.str (S (wrL x))),v3],?_,?_⟩
     . refine⟨_,rfl,_,_,_,_,true,rfl,rfl,B0v _,T.str_str,_,rfl,U6 ⟨_,rfl,_,rfl,rfl,_,rfl,?_⟩⟩
       rw[decide_eq_true rfl]
       exact U6 ⟨rfl,rfl⟩
     rintro σ' H3 ⟨rfl,rfl⟩
     have i2:(i:Int)=0\/(i:Int)=1:=by omega
     have lg:0<1+36*(0+(i:Int))/\(1+36*(0+(i:Int))).natAbs.log2<9000:=by
       rcases i2 with q|q<;>rw[q]<;>exact⟨by decide,by decide+kernel⟩
     refine⟨fun σ' H'=>∃t,Same H3 H'/\H' t=some (.tup x.vs)/\σ'=[some (.ref n),some (.str (S (wrL x))),some (.int c),some (.int (0+(i:Int))),some (.str (S (wrL x))),some (.ref t)],⟨_,rfl,_,rfl,_,rfl,_,_,rfl,rfl,CMul.ok (.inl ⟨by decide,by decide⟩),_,_,rfl,rfl,_,_,rfl,rfl,lg,x,_,rfl,ok,fun up plus a b hp ha hb=>⟨_,x,rfl,shl up plus a b ha hb,?_,(A4v ok he hnn up plus a b hp).2,fun m H' nm s' num=>⟨_,rfl,.inl ⟨m,_,_,_,_,rfl,num,fun t nt=>⟨t,s'.trans (Same.upd nt),A9,rfl⟩⟩⟩⟩⟩,?_⟩
     . rw[(A4v ok he hnn up plus a b hp).1]
       exact pl2 plus
     rintro σ' H4 ⟨t,s4,et,rfl⟩
     refine⟨_,?_,fun _ _ h=>h⟩
     refine⟨_,rfl,_,rfl,_,rfl,.inl ⟨n,_,_,_,_,rfl,n1.same s4,fun t2 nt2=>?_⟩⟩
     have u2:=Same.upd (o:= .tup x.vs) nt2
     have e2:upd H4 t2 (.tup x.vs) t2=some (.tup x.vs):=A9
     have et:=u2 _ _ et
     show B8z _ _ _ _ (upd H4 t2 (.tup x.vs)) _
     generalize upd H4 t2 (.tup x.vs)=G at u2 e2 et
     refine⟨A6h x.k.str x.s x.f x.p,A6h x.k.str x.s x.f x.p,rdD et,rdD e2,shD _ _ _ (okK _),shD _ _ _ (okK _),_,rfl,?_⟩
     rw[if_pos rfl,eqD]
     exact U6 ⟨_,rfl,t,x,rfl,et,fun H' s'=>⟨_,rfl,U6 ⟨s1.trans (s4.trans (u2.trans s')),_,_,_,rfl⟩⟩⟩
   rintro σ' H1 ⟨s1,v1,v2,v3,rfl⟩
   exact k H1 s1
end
noncomputable abbrev B6m:Stmt:=(top 33)
section
variable{P:Program}{w:World}{K:Frag}{mg:Str ->Option Value}{base:Heap}
noncomputable def C2e:Sp:=fun vs H Q _=>∃n:Nat,vs=[.int (n:Int)]/\n<=300/\Q (.int ((10^n:Nat):Int)) H
theorem scTen:FnScope ["_law_power","_law_found","_law_turn"] ["_law_power"] (A6 B6m):=scK
theorem B8q(D:Def K mg "_law_ten" ["_law_power"] B6m f fd)(O:Own mg):FnOk P w K mg base (CX1 P w) 1 f fd ["_law_power"] C2e:=by
 refine FnOk.up (D.F.ok scTen (fun vs H Q E h=>?_) (fun cdv A outer s H vs Q E hr h=>?_))
 . obtain⟨n,rfl,_⟩:=h
   rfl
 . obtain⟨n,rfl,hn,k⟩:=h
   refine⟨_,(A1 (B4 (i:=1) scTen.nd rfl (Or.inl rfl) A3)
     (A1 (A8j PassesOwn.never rfl (A1s rfl O.range_ (A0 (pv 0) A4)) (V5 (i:=2) scTen.nd rfl (Or.inl rfl)) (A7 (B4 (i:=1) scTen.nd rfl (Or.inl rfl) (A8 J0 (pv 1) A3))))
     (A7 (B5 (pv 1))))),?_⟩
   refine⟨_,rfl,n,rfl,by omega,by omega,A1z (fun i σ H'=>H'=H/\∃v,σ=[some (.int (n:Int)),some (.int ((10^i:Nat):Int)),v]) ⟨rfl,none,rfl⟩ ?_ ?_⟩
   . rintro i σ H' hi ⟨rfl,v,rfl⟩
     have m5:∀z:Int,IntMulOk z 10:=fun z=>CMul.ok (.inr ⟨by decide,by decide⟩)
     refine⟨_,rfl,_,_,rfl,rfl,m5 _,?_⟩
     have e:((10^i:Nat):Int)*10=((10^(i+1):Nat):Int):=by rw[Nat.pow_succ];rfl
     exact⟨rfl,some (.int (0+i)),by show [some (V.int (n:Int)),some (V.int (((10^i:Nat):Int)*10)),some (V.int (0+i))]=_;rw[e]⟩
   . rintro σ H' ⟨rfl,v,rfl⟩
     have e:(n:Int).toNat=n:=rfl
     rw[e]
     exact⟨_,rfl,k⟩
end
section
variable{P:Program}{w:World}{K:Frag}{mg:Str ->Option Value}{base:Heap}
end
noncomputable abbrev A0b:Stmt:=(top 34)
section
variable{P:Program}{w:World}{K:Frag}{mg:Str ->Option Value}{base:Heap}
noncomputable def A4r:Sp:=fun vs H Q _=>∃c,vs=[.int c,.int 60]/\∀(f:Nat) H',f<10^60 ->Same H H' ->Q (.int (f:Int)) H'
theorem scFigures:FnScope ["_law_cell","_law_most","_law_number","_law_j","_law_more","_law_many","_law_figures_here","_law_way","_law_behind"] ["_law_cell","_law_most"] (A6 A0b):=scK
theorem A8a(D:Def K mg "_law_figures" ["_law_cell","_law_most"] A0b f fd)(dB:Def K mg "_law_mixed" ["_law_cell","_law_k"] A3t f1 fd1)(dA:Def K mg "_law_ten" ["_law_power"] B6m f2 fd2)(O:Own mg):
   FnOk P w K mg base (CX1 P w) 2 f fd ["_law_cell","_law_most"] A4r:=by
 have G_l_mixed:=A6z (P:=P) (w:=w) (base:=base) dB
 have G_l_ten:=B8q (P:=P) (w:=w) (base:=base) dA O
 refine FnOk.up (D.F.ok scFigures (fun vs H Q E h=>?_) (fun cdv A outer s H vs Q E hr h=>?_))
 . obtain⟨c,rfl,_⟩:=h
   rfl
 . obtain ⟨c,rfl,k⟩:=h
   have hx:G6 (A3s CX0 P w K mg base ["_law_cell","_law_most","_law_number","_law_j","_law_more","_law_many","_law_figures_here","_law_way","_law_behind"] "_law_figures" (A6 A0b) f cdv A outer s H E).nox EKF:=B3e
   refine⟨_,(A1 (B4 (i:=2) scFigures.nd rfl (Or.inl rfl) A3)
     (A1 (A8j PassesOwn.never rfl (A1s rfl O.range_ (A0 A3 A4)) (V5 (i:=3) scFigures.nd rfl (Or.inl rfl)) (A7 (B4 (i:=2) scFigures.nd rfl (Or.inl rfl) (A8 V1 (A8 J0 (pv 2) A3) (B8 dB G_l_mixed hr hx (A0 (pv 0) (A0 (pv 3) A4)))))))
     (A1 (B4 (i:=4) scFigures.nd rfl (Or.inl rfl) (B8 dB G_l_mixed hr hx (A0 (pv 0) (A0 A3 A4))))
     (A1 (B4 (i:=5) scFigures.nd rfl (Or.inl rfl) (J9 A1q (Y5 (A0 (A8 V1 A3 (A8 D6 (A8 G2 (pv 4) A3) (pv 1))) (A0 (A8 V1 A3 (A8 D6 (A8 G2 (pv 4) A3) (D3 (B2d rfl) (by rfl) O.min_ boot_min (A0 A3 (A0 (pv 1) A4))))) (A0 (pv 1) A4)))) (A8 D6 (pv 4) A3) (fun _ _=>rfl)))
     (A1 (B4 (i:=6) scFigures.nd rfl (Or.inl rfl) (A8 D6 (pv 2) (B8 dA G_l_ten hr hx (A0 (pv 5) A4))))
     (A1 (B4 (i:=7) scFigures.nd rfl (Or.inl rfl) (A8 D6 (A8 G2 (pv 4) A3) A3))
     (A1 (A5 (G4 (B9 U1 (pv 7) A3 (B7 _)) (A7 (B4 (i:=6) scFigures.nd rfl (Or.inl rfl) (A8 V7 (B8 dA G_l_ten hr hx (A0 (pv 5) A4)) A3))) C6))
     (A1 (A5 (G4 (B9 U1 (pv 7) A3 (B7 _)) (A1 (B4 (i:=8) scFigures.nd rfl (Or.inl rfl) (B8 dA G_l_ten hr hx (A0 (A8 D6 (A8 G2 (pv 4) A3) (pv 5)) A4)))
     (A7 (B4 (i:=6) scFigures.nd rfl (Or.inl rfl) (A8 J0 (A8 G2 (pv 6) (pv 8)) (pv 8))))) C6))
     (A1 (A5 (G4 (B9 U1 (pv 7) A3 (B7 _)) (A7 (B4 (i:=6) scFigures.nd rfl (Or.inl rfl) (B8 dA G_l_ten hr hx (A0 (A8 D6 (A8 G2 (pv 4) A3) (pv 5)) A4)))) C6))
     (A7 (B5 (J9 A1q (Y5 (A0 (pv 6) (A0 (pv 6) (A0 A3 A4)))) (A8 J0 (G3 A0t (by rfl) O.int_ boot_int (A0 (U0 U1 (pv 7) A3 (B7 _)) A4)) A3) (fun _ _=>rfl))))))))))))),?_⟩
   refine⟨7,rfl,by decide,by decide,A1z (n:=7) (fun i σ H'=>H'=H/\∃num v,σ=[some (.int c),some (.int 60),some (.int num),v,none,none,none,none,none]) ⟨rfl,0,none,rfl⟩ ?_ ?_⟩
   . rintro i σ H' hi ⟨rfl,num,v,rfl⟩
     have m5:∀z:Int,IntMulOk z 2147483629:=fun z=>CMul.ok (.inr ⟨by decide,by decide⟩)
     refine⟨_,rfl,_,_,rfl,rfl,m5 _,_,rfl,_,rfl,c,0+i,rfl,by omega,by omega,fun m _ _=>?_⟩
     exact⟨_,_,rfl,rfl,rfl,_,_,rfl⟩
   . rintro σ H' ⟨rfl,num,v,rfl⟩
     refine⟨_,rfl,c,7,rfl,by decide,by decide,fun more m0 m1=>?_⟩
     obtain⟨many,hm,ix⟩:=ixs (xs:=[1+more/8 % 60,1+more/8 % (if(60:Int)<4 then 60 else 4),60]) (i:=more % 3) (Int.emod_nonneg _ (by decide)) (by show more % 3<3;exact Int.emod_lt_of_pos _ (by decide))
     have d8:(0:Int)<8/\(8:Int).natAbs.log2<9000:=⟨by decide,by decide+kernel⟩
     have d480:(0:Int)<480/\(480:Int).natAbs.log2<9000:=⟨by decide,by decide+kernel⟩
     have d4320:(0:Int)<4320/\(4320:Int).natAbs.log2<9000:=⟨by decide,by decide+kernel⟩
     refine⟨_,rfl,_,_,rfl,rfl,d8,_,rfl,_,_,rfl,rfl,(by show(0:Int)<60;decide),_,_,rfl,rfl,_,rfl,_,_,rfl,rfl,d8,_,rfl,_,_,rfl,_,_,rfl,rfl,(by show(0:Int)<(if(60:Int)<4 then 60 else 4);decide),_,_,rfl,rfl,_,rfl,A2 (by show 3<=1000;decide),fun l hl=>?_⟩
     refine⟨_,rfl,_,_,rfl,rfl,(by show(0:Int)<3;decide),l,_,_,_,rfl,rfl,SqL.of A9,ix,?_⟩
     have hb:1<=many/\many<=60:=by
       have a1:0<=more/8 % 60/\more/8 % 60<60:=by omega
       have a2:0<=more/8 % 4/\more/8 % 4<4:=by omega
       rw[if_neg (by decide)] at hm
       simp only[List.mem_cons,List.not_mem_nil,or_false] at hm
       rcases hm with rfl|rfl|rfl<;>omega
     clear hm ix
     obtain⟨n,rfl⟩:=Int.eq_ofNat_of_zero_le (show 0<=many by omega)
     have pos:∀j:Nat,(0:Int)<((10^j:Nat):Int):=fun j=>Int.natCast_pos.mpr (Nat.pow_pos (by decide))
     have le60:∀j:Nat,j<=60 ->10^j<=10^60:=fun j h=>Nat.pow_le_pow_right (by decide) h
     have hn:n<=60:=by omega
     refine⟨_,rfl,_,rfl,n,rfl,by omega,_,_,rfl,rfl,pos n,?_⟩
     have f0:0<=num % ((10^n:Nat):Int):=Int.emod_nonneg _ (by have:=pos n;omega)
     have f1:num % ((10^n:Nat):Int)<((10^n:Nat):Int):=Int.emod_lt_of_pos _ (pos n)
     obtain⟨fg,hfg⟩:=Int.eq_ofNat_of_zero_le f0
     have lfg:fg<10^60:=by have:=le60 n hn;omega
     refine⟨_,rfl,_,_,rfl,rfl,d480,_,_,rfl,rfl,(by show(0:Int)<9;decide),?_⟩
     have mn:0<=more/4320 % (n:Int)/\more/4320 % (n:Int)<n:=⟨Int.emod_nonneg _ (by omega),Int.emod_lt_of_pos _ (by omega)⟩
     obtain⟨bh,hbh⟩:=Int.eq_ofNat_of_zero_le mn.1
     have lbh:bh<60:=by omega
     refine⟨fun σ H2=>H2=upd H' l (.lst [.int (1+more/8 % 60),.int (1+more/8 % (if(60:Int)<4 then 60 else 4)),.int 60])/\∃(g:Nat),g<10^60/\σ=[some (.int c),some (.int 60),some (.int num),v,some (.int more),some (.int (n:Int)),some (.int (g:Int)),some (.int (more/480 % 9)),none],?_,?_⟩
     . refine⟨_,rfl,rfl,_,rfl,?_⟩
       refine U4 (fun _=>?_) (fun _=>?_)
       . refine⟨_,rfl,n,rfl,by omega,_,_,rfl,rfl,rfl,10^n-1,?_,?_⟩
         . have:=le60 n hn
           have:=Nat.pow_pos (n:=n) (show 0<10 by decide)
           omega
         . have e:((10^n:Nat):Int)-1=((10^n-1:Nat):Int):=by have:=Nat.pow_pos (n:=n) (show 0<10 by decide);omega
           show [some (V.int c),some (V.int 60),some (V.int num),v,some (V.int more),some (V.int (n:Int)),some (V.int (((10^n:Nat):Int)-1)),some (V.int (more/480 % 9)),none]=_
           rw[e]
       . refine⟨rfl,fg,lfg,?_⟩
         show [some (V.int c),some (V.int 60),some (V.int num),v,some (V.int more),some (V.int (n:Int)),some (V.int (num % ((10^n:Nat):Int))),some (V.int (more/480 % 9)),none]=_
         rw[hfg]
     rintro σ H2 ⟨rfl,g,lg,rfl⟩
     clear hfg lfg f0 f1 fg
     refine⟨fun σ H2=>H2=upd H' l (.lst [.int (1+more/8 % 60),.int (1+more/8 % (if(60:Int)<4 then 60 else 4)),.int 60])/\∃(g:Nat) (vb:Option V),g<10^60/\σ=[some (.int c),some (.int 60),some (.int num),v,some (.int more),some (.int (n:Int)),some (.int (g:Int)),some (.int (more/480 % 9)),vb],?_,?_⟩
     . refine⟨_,rfl,rfl,_,rfl,?_⟩
       refine U4 (fun _=>?_) (fun _=>?_)
       . refine⟨_,rfl,_,_,rfl,rfl,d4320,_,rfl,_,_,rfl,rfl,(by show(0:Int)<(n:Int);omega),bh,(by show [V.int (more/4320 % (n:Int))]=_;rw[hbh]),by omega,?_⟩
         have sm:∀j:Nat,j<10^60 ->((j:Nat):Int).natAbs<2^1000:=fun j h=>by
           rw[Int.natAbs_natCast]
           exact Nat.lt_trans h (by decide+kernel)
         have b60:10^bh<10^60:=Nat.pow_lt_pow_right (by decide) lbh
         have lgb:((10^bh:Nat):Int).natAbs.log2<9000:=Nat.lt_trans (Z0 (sm _ b60) (by decide)) (by decide)
         have q:((g:Nat):Int)/((10^bh:Nat):Int)=((g/10^bh:Nat):Int):=rfl
         have g1:g/10^bh<10^60:=Nat.lt_of_le_of_lt (Nat.div_le_self _ _) lg
         refine⟨_,rfl,_,rfl,_,_,rfl,rfl,⟨pos bh,lgb⟩,_,rfl,_,_,rfl,rfl,A7n (sm _ g1) (sm _ b60),?_⟩
         exact⟨rfl,g/10^bh*10^bh,_,Nat.lt_of_le_of_lt (Nat.div_mul_le_self _ _) lg,rfl⟩
       . exact⟨rfl,g,_,lg,rfl⟩
     rintro σ H2 ⟨rfl,g2,vb,lg2,rfl⟩
     refine⟨fun σ H2=>H2=upd H' l (.lst [.int (1+more/8 % 60),.int (1+more/8 % (if(60:Int)<4 then 60 else 4)),.int 60])/\∃(g:Nat) (vb:Option V),g<10^60/\σ=[some (.int c),some (.int 60),some (.int num),v,some (.int more),some (.int (n:Int)),some (.int (g:Int)),some (.int (more/480 % 9)),vb],?_,?_⟩
     . refine⟨_,rfl,rfl,_,rfl,?_⟩
       refine U4 (fun _=>?_) (fun _=>?_)
       . refine⟨_,rfl,_,_,rfl,rfl,d4320,_,rfl,_,_,rfl,rfl,(by show(0:Int)<(n:Int);omega),bh,(by show [V.int (more/4320 % (n:Int))]=_;rw[hbh]),by omega,?_⟩
         exact⟨rfl,10^bh,_,Nat.pow_lt_pow_right (by decide) lbh,rfl⟩
       . exact⟨rfl,g2,_,lg2,rfl⟩
     rintro σ H2 ⟨rfl,g3,vb3,lg3,rfl⟩
     refine⟨_,rfl,_,rfl,A2 (by show 3<=1000;decide),fun l2 hl2=>?_⟩
     refine⟨_,rfl,rfl,.inr ⟨_,rfl,_,_,rfl,rfl,CMul.ok (.inr ⟨by decide,by decide⟩),?_⟩⟩
     have s1:Same H' (upd (upd H' l (.lst [.int (1+more/8 % 60),.int (1+more/8 % (if(60:Int)<4 then 60 else 4)),.int 60])) l2 (.lst [.int (g3:Int),.int (g3:Int),.int 0])):=(Same.upd hl).trans (Same.upd hl2)
     cases hd:decide (V.int (more/480 % 9)=V.int 4) with
     |true=>exact⟨l2,_,_,_,rfl,rfl,SqL.of A9,G0 (j:=2) rfl,k 0 _ (by decide+kernel) s1⟩
     |false=>exact⟨l2,_,_,_,rfl,rfl,SqL.of A9,G0 (j:=0) rfl,k g3 _ lg3 s1⟩
end
noncomputable abbrev A6x:Stmt:=(top 35)
structure ErrsN(mg:Str ->Option Value)(C1 C2 C3 C4 C5:Addr):Prop where
 g1:mg "BadNumber"=some (.ref C1)
 g2:mg "NoText"=some (.ref C2)
 g3:mg "BadContext"=some (.ref C3)
 g4:mg "BadCount"=some (.ref C4)
 g5:mg "Trapped"=some (.ref C5)
noncomputable def A0u (ps:List (Addr×Str×Bool)):List V:=(ps.filter (·.2.2)).map fun p=>V.str p.2.1
theorem A9a{K:Frag}{H:Hp}{σ:L2.St}{i:Nat}{a:Addr}{ps:List (Addr×Str×Bool)}{Q:VK}(hσ:σ[i]?=some (some (.ref a)))(hl:SqL K H a (ps.map fun p=>V.ref p.1))(ht:∀p∈ps,H p.1=some (.tup [.str p.2.1,.bl p.2.2]))(hz:ps.length<=100)
   (k:∀D,H D=none ->Q (.ref D) (upd H D (.lst (A0u ps)))):B4h 2 (B8g K (B3q i)) (B7j K 2 (B4d (A4n 0) (B4d (A4n 1) C2d))) (tB (B3q 1)) (B3q 0) σ H Q:=by
 refine⟨_,hσ,a,rfl,⟨_,hl⟩,fun D hD=>⟨ps.length,fun i ys H2=>i<=ps.length/\ys=A0u (ps.take i)/\H2=upd H D (.lst ys),⟨Nat.zero_le _,rfl,rfl⟩,?_⟩⟩
 rintro i ys H2 ⟨hi,rfl,rfl⟩
 refine⟨hi,A9,?_⟩
 have sm:Same H (upd H D (.lst (A0u (ps.take i)))):=Same.upd hD
 have lz:(A0u (ps.take i)).length<=100:=by
   unfold A0u
   rw[List.length_map]
   exact Nat.le_trans (List.length_filter_le _ _) (by rw[List.length_take];omega)
 by_cases hlt:i<ps.length
 . refine .inr ⟨hlt,⟨_,V.ref ps[i].1,sm.seq hl,by simp[hlt]⟩,fun x H3 y=>?_⟩
   obtain⟨rfl,y⟩:=y
   have ex:x=V.ref ps[i].1:=by
     have:=y _ (sm.seq hl)
     simp[hlt] at this
     exact this.symm
   subst ex
   have et:A0u (ps.take (i+1))=A0u (ps.take i)++(if ps[i].2.2 then [V.str ps[i].2.1] else []):=by
     unfold A0u
     rw[List.take_succ_eq_append_getElem hlt,List.filter_append,List.map_append]
     congr 1
     cases hb:ps[i].2.2<;>simp[hb]
   refine⟨_,_,rfl,SqT.of (sm _ _ (ht _ (List.getElem_mem hlt))),rfl,_,_,rfl,_,_,rfl,rfl,?_⟩
   refine⟨_,rfl,_,rfl,?_⟩
   cases hb:ps[i].2.2 with
   | false=>
     refine U6 ⟨hlt,?_,?_⟩
     . rw[et,hb];simp
     . rfl
   | true=>
     refine Z9 ⟨_,rfl,A9,Nat.lt_of_le_of_lt lz (U8 (by decide)),hlt,?_,?_⟩
     . rw[et,hb];rfl
     . rw[B7u]
 . have e:i=ps.length:=by omega
   subst e
   refine .inl ⟨⟨_,sm.seq hl,by simp⟩,?_⟩
   have:=k D hD
   rw[List.take_length]
   exact this
section
variable{P:Program}{w:World}{K:Frag}{mg:Str ->Option Value}{base:Heap}
noncomputable def A9m (b1 b2 b3 b4 b5:Bool):List V:=([(("number":Str),b1),("text",b2),("context",b3),("count",b4),("trapped",b5)].filter (·.2)).map fun p=>V.str p.1
noncomputable def B2t (K:Frag) (C1 C2 C3 C4 C5:Addr):Sp:=fun vs H Q _=>∃a C t T u b1 b2 b3 b4 b5,vs=[.ref a]/\H a=some (.frz (Z6 (.ref C) t none (.ref T)) u)/\Fits K C C1 C2 C3 C4 C5 b1 b2 b3 b4 b5/\
 ∀l H',Same H H' ->H l=none ->H' l=some (.tup (A9m b1 b2 b3 b4 b5)) ->Q (.ref l) H'
theorem scWord:FnScope ["_law_e","_law_some","_law_found"] ["_law_e"] (A6 A6x):=scK
noncomputable def B2m (s:Stmt):Scope:=match s with
 | .Assign _ (.ListComp _ _ sc _) _=>sc
 |_=>{kind:= .function,names:=[],isGenerator:=false,isCoroutine:=false}
theorem scWordC:CompScope ["_law_word_here","_law_fits"] (B2m ((D5 A6x).getD 3 (.Pass ⟨0,0,0,0⟩))):=⟨rfl,by decide+kernel,by decide+kernel,by decide+kernel,by decide+kernel⟩
theorem B6z{f C1 C2 C3 C4 C5:Addr}(D:Def K mg "_law_word" ["_law_e"] A6x f fd)(O:Own mg)(T:Kit K)(E:ErrsN mg C1 C2 C3 C4 C5):FnOk P w K mg base (CX1 P w) 1 f fd ["_law_e"] (B2t K C1 C2 C3 C4 C5):=by
 refine D.F.okE scWord (fun vs H Q E h=>?_) (fun X cdv A outer s H vs Q E' hX hr hx h=>?_)
 . obtain⟨a,C,t,T,u,b1,b2,b3,b4,b5,rfl,_⟩:=h
   rfl
 . subst hX
   have hd:V0 _:= .inl hr.hd
   obtain⟨a,C,t,T,u,b1,b2,b3,b4,b5,rfl,ha,F,k⟩:=h
   refine⟨_,(A1 (B4 (i:=1) scWord.nd rfl (Or.inl rfl) (Y5 (A0 (U9 (A0 B1 (A0 (A1g O.isi (pv 0) (B1p E.g1)) A4))) (A0 (U9 (A0 B1 (A0 (A1g O.isi (pv 0) (B1p E.g2)) A4))) A4))))
     (A1 (B4 (i:=1) scWord.nd rfl (Or.inl rfl) (A8 A8e (pv 1) (Y5 (A0 (U9 (A0 B1 (A0 (A1g O.isi (pv 0) (B1p E.g3)) A4))) (A0 (U9 (A0 B1 (A0 (A1g O.isi (pv 0) (B1p E.g4)) A4))) A4)))))
     (A1 (B4 (i:=1) scWord.nd rfl (Or.inl rfl) (A8 A8e (pv 1) (Y5 (A0 (U9 (A0 B1 (A0 (A1g O.isi (pv 0) (B1p E.g5)) A4))) A4))))
     (A1 (B6x (i:=2) scWordC hd (B4p (pv 1)) rfl (fun C s₀ H₀ ex pn h=>B7q (K:=K) (n:=2) rfl h (A1b (V5 (i:=0) scWordC.nd rfl (Or.inl rfl)) (A1b (V5 (i:=1) scWordC.nd rfl (Or.inl rfl)) A9w))) (fun C s₀ H₀ ex pn h=>G7 (pv 1)) (fun C s₀ H₀ ex pn h=>pv 0) scWord.nd rfl rfl)
     (A7 (B5 (J1 (G7 (A1g O.isi (pv 0) (pty O.ValueError_ (show bootBuiltins "ValueError"=some (.type "ValueError") by decide+kernel)))) (G3 A4j (by rfl) O.tuple_ boot_tuple (A0 (pv 2) A4)) (U9 (A0 B1 A4))))))))),?_⟩
   have z2:2<=sizeLine:=A2 (by decide)
   have z1:1<=sizeLine:=A2 (by decide)
   have tyx:∀{H':Hp},Same H H' ->TyE K H' (.ref a) (.ref C):=fun e=> .exc (e _ _ ha) F.k
   refine⟨_,rfl,_,_,_,_,b1,rfl,rfl,tyx (Same.refl H),F.h1,z2,fun t1 n1=>?_⟩
   have u1:=Same.upd (o:= .tup [.str "number",.bl b1]) n1
   refine⟨_,rfl,_,_,_,_,b2,rfl,rfl,tyx u1,F.h2,z2,fun t2 n2=>⟨z2,fun l1 m1=>?_⟩⟩
   have u2:=Same.upd (o:= .tup [.str "text",.bl b2]) n2
   have u3:=Same.upd (o:= .lst [.ref t1,.ref t2]) m1
   have s3:=(u1.trans u2).trans u3
   refine⟨_,rfl,_,rfl,_,_,_,_,b3,rfl,rfl,tyx s3,F.h3,z2,fun t3 n3=>?_⟩
   have u4:=Same.upd (o:= .tup [.str "context",.bl b3]) n3
   refine⟨_,rfl,_,_,_,_,b4,rfl,rfl,tyx (s3.trans u4),F.h4,z2,fun t4 n4=>⟨z2,fun l2 m2=>?_⟩⟩
   have u5:=Same.upd (o:= .tup [.str "count",.bl b4]) n4
   have u6:=Same.upd (o:= .lst [.ref t3,.ref t4]) m2
   have s6:=((s3.trans u4).trans u5).trans u6
   have el1:=((u4.trans u5).trans u6) _ _ (A9 (H:=upd (upd H t1 (.tup [.str "number",.bl b1])) t2 (.tup [.str "text",.bl b2])) (a:=l1) (o:= .lst [.ref t1,.ref t2]))
   refine⟨_,_,_,_,rfl,rfl,el1,A9,A2 (by show 4<=1000;decide),fun l3 m3=>?_⟩
   have u7:=Same.upd (o:= .lst ([.ref t1,.ref t2]++ [.ref t3,.ref t4])) m3
   have s7:=s6.trans u7
   refine⟨_,rfl,_,rfl,_,_,_,_,b5,rfl,rfl,tyx s7,F.h5,z2,fun t5 n5=>⟨z1,fun l4 m4=>?_⟩⟩
   have u8:=Same.upd (o:= .tup [.str "trapped",.bl b5]) n5
   have u9:=Same.upd (o:= .lst [.ref t5]) m4
   have el3:=(u8.trans u9) _ _ (A9 (a:=l3) (o:= .lst ([.ref t1,.ref t2]++ [.ref t3,.ref t4])))
   refine⟨_,_,_,_,rfl,rfl,el3,A9,A2 (by show 5<=1000;decide),fun l5 m5=>?_⟩
   have u10:=Same.upd (o:= .lst (([.ref t1,.ref t2]++ [.ref t3,.ref t4])++ [.ref t5])) m5
   have s10:=((s7.trans u8).trans u9).trans u10
   have r5:=u9.trans u10
   have r4:=(((u6.trans u7).trans u8)).trans r5
   have r3:=u5.trans r4
   have r2:=(u3.trans u4).trans r3
   have r1:=u2.trans r2
   dsimp only[A4n,C1v,B7a]
   refine A9a (a:=l5) (ps:=[(t1,"number",b1),(t2,"text",b2),(t3,"context",b3),(t4,"count",b4),(t5,"trapped",b5)]) (by rfl) (SqL.of A9) ?_ (by show 5<=100;decide) fun D nD=>?_
   . intro p hp
     simp only[List.mem_cons,List.not_mem_nil,or_false] at hp
     rcases hp with rfl|rfl|rfl|rfl|rfl
     . exact r1 _ _ A9
     . exact r2 _ _ A9
     . exact r3 _ _ A9
     . exact r4 _ _ A9
     . exact r5 _ _ A9
   have u11:=Same.upd (o:= .lst (A0u [(t1,"number",b1),(t2,"text",b2),(t3,"context",b3),(t4,"count",b4),(t5,"trapped",b5)])) nD
   have s11:=s10.trans u11
   refine⟨_,rfl,_,_,_,_,true,rfl,rfl,tyx s11,F.hv,_,rfl,Z9 ?_⟩
   refine⟨_,rfl,_,_,rfl,.inl ⟨SqL.of A9,fun l nl=>?_⟩⟩
   refine k l _ (s11.trans (Same.upd nl)) (s11.free nl) ?_
   rw[A9]
   unfold A0u A9m
   cases b1<;>cases b2<;>cases b3<;>cases b4<;>cases b5<;>rfl
end
structure Own4(K:Frag)(CN:Addr):Prop where
 non:kitOne K (.type "NoneType") (.ref CN)=some false
 int:kitOne K (.type "int") (.ref CN)=some false
 str:kitOne K (.type "str") (.ref CN)=some false
 bl:kitOne K (.type "bool") (.ref CN)=some false
 tup:kitOne K (.type "tuple") (.ref CN)=some false
 lst:kitOne K (.type "list") (.ref CN)=some false
 dic:kitOne K (.type "dict") (.ref CN)=some false
 lt:kitOne K (.type "list") (.type "tuple")=some false
noncomputable abbrev A3b:Stmt:=(top 36)
structure CaughtN(K:Frag)(mg:Str ->Option Value)(CR CB C2 C3 C4 C5:Addr):Prop where
 g:mg "ReckonError"=some (.ref CR)
 c:Clause K CR
 sub:subIn K (.ref CB) (.ref CR)=some true
 fits:Fits K CB CB C2 C3 C4 C5 true false false false false
theorem shN:SeqAt.shaped (PyData.tuple [PyData.str (Str.ofString "number")])=true:=by decide+kernel
theorem eqN:PyData.eqv (PyData.tuple [PyData.str (Str.ofString "number")]) (PyData.tuple [PyData.str (Str.ofString "number")])=true:=by decide+kernel
section
variable{P:Program}{w:World}{K:Frag}{mg:Str ->Option Value}{base:Heap}
noncomputable def A7e:Sp:=fun vs H Q _=>∃c:Int,vs=[.int c]/\∀H',Same H H' ->Q (.bl true) H'
theorem scLRef02:FnScope ["_law_cell","_law_things","_law_caught","_law_e"] ["_law_cell"] (A6 A3b):=scK
theorem B2j{f f1 f2 f3 CN CR CB C2 C3 C4 C5:Addr}(D:Def K mg "_law_refused" ["_law_cell"] A3b f fd)(dA:Def K mg "nothing" [] Y2 f1 fd1)(dB:FnOk P w K mg base (CX1 P w) 3 f1 fd1 [] (A0p CN))(dC:Def K mg "written" ["number"] A0k f2 fd2)(dD:FnOk P w K mg base (CX1 P w) 3 f2 fd2 ["number"] (A1v K CN CB))(dE:Def K mg "_law_word" ["_law_e"] A6x f3 fd3)(dF:FnOk P w K mg base (CX1 P w) 1 f3 fd3 ["_law_e"] (B2t K CB C2 C3 C4 C5))(C:CaughtN K mg CR CB C2 C3 C4 C5)(O4:Own4 K CN)(O:Own mg):FnOk P w K mg base (CX1 P w) 4 f fd ["_law_cell"] A7e:=by
 refine D.F.okE scLRef02 (fun vs H Q E h=>?_) (fun X cdv A outer s H vs Q E hX hr hx h=>?_)
 . obtain⟨c,rfl,_⟩:=h
   rfl
 . subst hX
   obtain⟨c,rfl,k⟩:=h
   have hu:=hr.units
   have z0:0<=sizeLine:=Nat.zero_le _
   have z1:1<=sizeLine:=A2 (by decide)
   have z4:4<=sizeLine:=A2 (by decide)
   have z8:8<=sizeLine:=A2 (by decide)
   refine⟨_,(A1 (A5 (B4 (i:=1) scLRef02.nd rfl (Or.inl rfl) (Y5 (A0 A9c (A0 A3 (A0 B1 (A0 A2h (A0 (U9 (A0 B1 (A0 A3 (A0 A3 (A0 A3 A4))))) (A0 (Y5 (A0 (A8u dA dB hr hx) A4)) (A0 B4r (A0 (U9 A4) A4)))))))))))
     (A1 (A5 (B4 (i:=2) scLRef02.nd rfl (Or.inl rfl) A9c))
     (A1 (A5 (B8p ⟨rfl,rfl,rfl⟩ (by rfl) C.g C.c scLRef02.nd (i:=3) rfl rfl (fun pins Ew EHb hc=>(A7 (A5 (U5 (B8 dC dD hr hc (A0 (J9 (B3z (K:=K) rfl) (pv 1) (A8 D6 (pv 0) A3) (fun _ _=>rfl)) A4)))))) (fun pins a=>(A7 (A5 (B4 (i:=2) scLRef02.nd rfl (Or.inl rfl) (pv 3)))))))
     (A7 (B5 (A3c (U0 B6c (pv 2) A9c (B7 _)) (A3g (U0 (B8w hr.units) (B8 dE dF hr hx (A0 (pv 2) A4)) (U9 (A0 B1 A4)) (B7 _))))))))),?_⟩
   refine⟨fun σ' H'=>∃l xs,Same H H'/\H' l=some (.lst xs)/\xs.length=8/\(∀v∈xs,A5t K CN H' v)/\σ'=[some (.int c),some (.ref l),none,none],?_,?_⟩
   . refine⟨z4,fun q1 n1=>⟨rfl,fun n H1 nn s1 num=>⟨z1,fun q2 n2=>fun q3 n3=>⟨z0,fun q4 n4=>⟨z8,fun l nl=>?_⟩⟩⟩⟩⟩
     have u1:=Same.upd (o:= .tup [.str "plain",.int 0,.int 5,.int 0]) n1
     have u2:=Same.upd (o:= .lst [.ref n]) n2
     have u3:=Same.upd (o:= .dK []) n3
     have u4:=Same.upd (o:= .tup []) n4
     have u5:=Same.upd (o:= .lst [.non,.int 5,.str "5",.bl true,.ref q1,.ref q2,.ref q3,.ref q4]) nl
     refine⟨l,_,u1.trans (s1.trans (u2.trans (u3.trans (u4.trans u5)))),A9,rfl,fun v hv=>?_,rfl⟩
     simp only[List.mem_cons,List.not_mem_nil,or_false] at hv
     rcases hv with rfl|rfl|rfl|rfl|rfl|rfl|rfl|rfl
     . exact⟨_,C1z,O4.non⟩
     . exact⟨_,A6j _,O4.int⟩
     . exact⟨_,B0v _,O4.str⟩
     . exact⟨_,C3h _,O4.bl⟩
     . exact⟨_,B3u ((s1.trans (u2.trans (u3.trans (u4.trans u5)))) _ _ A9),O4.tup⟩
     . exact⟨_,C1s ((u3.trans (u4.trans u5)) _ _ A9),O4.lst⟩
     . exact⟨_,C2c ((u4.trans u5) _ _ A9),O4.dic⟩
     . exact⟨_,B3u (u5 _ _ A9),O4.tup⟩
   rintro σ' H1 ⟨l,xs,s1,el,lx,hx',rfl⟩
   refine⟨fun σ' H'=>H'=H1/\σ'=[some (.int c),some (.ref l),some .non,none],⟨rfl,rfl⟩,?_⟩
   rintro σ' H2 ⟨rfl,rfl⟩
   refine⟨fun σ' H'=>∃a t T u,Same H2 H'/\H' a=some (.frz (Z6 (.ref CB) t none (.ref T)) u)/\σ'=[some (.int c),some (.ref l),some (.ref a),none],?_,?_⟩
   . obtain⟨o,ho,ix⟩:=ixv (xs:=xs) (i:=c % 8) (Int.emod_nonneg _ (by decide)) (by rw[lx];exact Int.emod_lt_of_pos _ (by decide))
     refine⟨fun _ _=>False,⟨_,rfl,_,rfl,_,_,rfl,rfl,(by decide:(0:Int)<8),l,_,_,_,rfl,rfl,SqL.of el,ix,o,rfl,.inr ⟨hx' o ho,C.sub,fun ea t T na=>?_⟩⟩,fun _ _ h=>h.elim⟩
     refine⟨_,?_,fun _ _ h=>h⟩
     exact⟨_,rfl,ea,t,T,_,Same.upd na,A9,rfl⟩
   rintro σ' H3 ⟨a,t,T,u,s3,ea,rfl⟩
   refine⟨_,rfl,rfl,_,rfl,?_⟩
   rw[decide_eq_false (show¬V.ref a=V.non from fun q=>nomatch q)]
   refine Z9 ⟨_,rfl,a,CB,t,T,u,true,false,false,false,false,rfl,ea,C.fits,fun wd H' s' nw ew=>⟨z1,fun q nq=>?_⟩⟩
   have u1:=Same.upd (o:= .tup [.str "number"]) nq
   refine⟨.tuple [.str "number"],.tuple [.str "number"],.tup (SqT.of (u1 _ _ ew)) (.cons (.str _) .nil),.tup (SqT.of A9) (.cons (.str _) .nil),shN,shN,?_⟩
   rw[if_neg (by decide),eqN]
   exact k _ (s1.trans (s3.trans (s'.trans u1)))
end
noncomputable abbrev A5x:Stmt:=(top 42)
section
variable{P:Program}{w:World}{K:Frag}{mg:Str ->Option Value}{base:Heap}
noncomputable abbrev st2 (sc:Addr) (x1 x2 x3 x4 x5 x6 x7 x8:Option V):L2.St:=[some (.ref sc),x1,x2,x3,x4,x5,x6,x7,x8]
noncomputable def A9n (K:Frag):Sp:=fun vs H Q _=>∃a ns,vs=[.ref a]/\(ns:List Int).length<=63/\SqL K H a (ns.map V.int)/\∀H',Q (.bl true) H'
theorem scLaw:FnScope ["_law_script","_law_cell","_law_figures_here","_law_many","_law_half","_law_powers","_law_power","_law_number","_law_more"] ["_law_script"] (A6 A5x):=scK
theorem B9c{f f1 f2 f3 f4 f5 f6 f7 f8 f9 f10 CN CB:Addr}(D:Def K mg "law" ["_law_script"] A5x f fd)
   (dA:Def K mg "_law_cell_at" ["_law_script","_law_k"] B0q f1 fd1) (dB:FnOk P w K mg base (CX1 P w) 1 f1 fd1 ["_law_script","_law_k"] (B4j K)) (dE:Def K mg "_law_mixed" ["_law_cell","_law_k"] A3t f2 fd2) (dF:FnOk P w K mg base (CX1 P w) 1 f2 fd2 ["_law_cell","_law_k"] B0u)
   (dG:Def K mg "_law_figures" ["_law_cell","_law_most"] A0b f3 fd3) (dH:FnOk P w K mg base (CX1 P w) 2 f3 fd3 ["_law_cell","_law_most"] A4r) (dJ:Def K mg "_law_digits" ["_law_number"] Z8 f4 fd4) (dL:FnOk P w K mg base (CX1 P w) 1 f4 fd4 ["_law_number"] A1w)
   (dM:Def K mg "plain" ["sign","figures","power"] A3m f5 fd5) (dN:FnOk P w K mg base (CX1 P w) 3 f5 fd5 ["sign","figures","power"] (A5r K CN CB)) (dP:Def K mg "end" ["sign"] B2u f6 fd6) (dQ:FnOk P w K mg base (CX1 P w) 3 f6 fd6 ["sign"] (B4a K CN CB)) (dS:Def K mg "nothing" [] Y2 f7 fd7) (dU:FnOk P w K mg base (CX1 P w) 3 f7 fd7 [] (A0p CN))
   (dW:Def K mg "_law_text" ["_law_sign","_law_figures_here","_law_power"] A5g f8 fd8) (dX:FnOk P w K mg base (CX1 P w) 2 f8 fd8 ["_law_sign","_law_figures_here","_law_power"] B0w) (dC:Def K mg "_law_round" ["_law_number","_law_text_here","_law_cell"] A2u f9 fd9) (dD:FnOk P w K mg base (CX1 P w) 6 f9 fd9 ["_law_number","_law_text_here","_law_cell"] (A7a CN)) (dY:Def K mg "_law_refused" ["_law_cell"] A3b f10 fd10) (dZ:FnOk P w K mg base (CX1 P w) 4 f10 fd10 ["_law_cell"] A7e) (O:Own mg):
   FnOk P w K mg base (CX1 P w) 7 f fd ["_law_script"] (A9n K):=by
 refine D.F.okE scLaw (fun vs H Q E h=>?_) (fun X cdv A outer s H vs Q E hX hr hx h=>?_)
 . obtain⟨a,ns,rfl,_⟩:=h
   rfl
 . subst hX
   obtain⟨sc,ns,rfl,n63,hS,kk⟩:=h
   have z2:2<=sizeLine:=A2 (by decide)
   have z4:4<=sizeLine:=A2 (by decide)
   have d2:(0:Int)<2/\(2:Int).natAbs.log2<9000:=⟨by decide,by decide+kernel⟩
   refine⟨_,(A1 (A5 (B4 (i:=1) scLaw.nd rfl (Or.inl rfl) (B8 dE dF hr hx (A0 (B8 dA dB hr hx (A0 (pv 0) (A0 A3 A4))) (A0 A3 A4)))))
     (A1 (A5 (B4 (i:=2) scLaw.nd rfl (Or.inl rfl) (B8 dG dH hr hx (A0 (B8 dA dB hr hx (A0 (pv 0) (A0 A3 A4))) (A0 A3 A4)))))
     (A1 (A5 (B4 (i:=3) scLaw.nd rfl (Or.inl rfl) (D3 D4 (by rfl) O.len_ PySem.boot_len (A0 (B8 dJ dL hr hx (A0 (pv 2) A4)) A4))))
     (A1 (A5 (B4 (i:=4) scLaw.nd rfl (Or.inl rfl) (A8 G2 (pv 1) A3)))
     (A1 (A5 (B4 (i:=5) scLaw.nd rfl (Or.inl rfl) (Y5 (A0 (A8 V7 (A8 D6 (pv 4) A3) A3) (A0 (A8 V7 (A3p A0y (pv 3)) (A8 D6 (pv 4) A3)) A4)))))
     (A1 (A5 (B4 (i:=5) scLaw.nd rfl (Or.inl rfl) (A8 A8e (pv 5) (Y5 (A0 (A8 V7 A3 (A8 D6 (pv 4) A3)) (A0 (A3p A0y (A8 D6 (pv 4) (A8 V1 (pv 3) A3))) A4))))))
     (A1 (A5 (B4 (i:=6) scLaw.nd rfl (Or.inl rfl) (J9 A1q (pv 5) (A8 D6 (A8 G2 (pv 1) A3) A3) (fun _ _=>rfl))))
     (A1 (A5 (B4 (i:=7) scLaw.nd rfl (Or.inl rfl) (B8 dM dN hr hx (A0 (A8 D6 (pv 1) A3) (A0 (pv 2) (A0 (pv 6) A4))))))
     (A1 (A5 (B4 (i:=8) scLaw.nd rfl (Or.inl rfl) (B8 dE dF hr hx (A0 (B8 dA dB hr hx (A0 (pv 0) (A0 A3 A4))) (A0 A3 A4)))))
     (A1 (A5 (G4 (V2 (G7 (B8 dC dD hr hx (A0 (pv 7) (A0 (B8 dW dX hr hx (A0 (A8 D6 (pv 1) A3) (A0 (pv 2) (A0 (pv 6) A4)))) (A0 (pv 8) A4)))))) (A7 (B5 A2h)) C6))
     (A1 (A5 (G4 (V2 (G7 (B8 dC dD hr hx (A0 (B8 dP dQ hr hx (A0 (A8 D6 (pv 1) A3) A4)) (A0 (A8 B3 (A8 V3 B1 (A8 D6 (pv 1) A3)) B1) (A0 (pv 8) A4)))))) (A7 (B5 A2h)) C6))
     (A7 (B5 (A3c (B8 dC dD hr hx (A0 (A8u dS dU hr hx) (A0 B1 (A0 (pv 8) A4)))) (A3g (B8 dY dZ hr hx (A0 (A8 G2 (pv 8) A3) A4))))))))))))))))),?_⟩
   refine⟨fun σ' H'=>∃ce,H'=H/\σ'=st2 sc (some (.int ce)) none none none none none none none,⟨_,rfl,sc,ns,_,rfl,hS,by omega,fun c=>⟨c,0,rfl,by decide,by decide,fun m m0 m1=>⟨m,rfl,rfl⟩⟩⟩,?_⟩
   rintro σ' H1 ⟨ce,rfl,rfl⟩
   refine⟨fun σ' H'=>∃fg:Nat,fg<10^60/\Same H1 H'/\σ'=st2 sc (some (.int ce)) (some (.int (fg:Int))) none none none none none none,⟨_,rfl,sc,ns,_,rfl,hS,by omega,fun c=>⟨c,rfl,fun fg H' hf s'=>⟨fg,hf,s',rfl⟩⟩⟩,?_⟩
   rintro σ' H2 ⟨fg,hf,s2,rfl⟩
   have dl:=Y8 hf (by decide)
   have dn:1<=(dig fg).length:=by
     cases e:dig fg with
     |nil=>exact absurd e (A0j fg)
     |cons a t=>exact Nat.succ_le_succ (Nat.zero_le _)
   refine⟨fun σ' H'=>Same H1 H'/\σ'=st2 sc (some (.int ce)) (some (.int (fg:Int))) (some (.int ((dig fg).length:Int))) none none none none none,⟨_,rfl,fg,rfl,hf,fun H' s'=>⟨_,rfl,A2 (by rw[B0];omega),s2.trans s',by rw[B0];rfl⟩⟩,?_⟩
   rintro σ' H3 ⟨s3,rfl⟩
   generalize (dig fg).length=mn at dl dn
   refine⟨fun σ' H'=>∃hf':Int,H'=H3/\σ'=st2 sc (some (.int ce)) (some (.int (fg:Int))) (some (.int (mn:Int))) (some (.int hf')) none none none none,⟨_,rfl,_,_,rfl,rfl,d2,_,rfl,rfl⟩,?_⟩
   rintro σ' H4 ⟨ha,rfl,rfl⟩
   have e1:=Int.emod_nonneg ha (show(401:Int)≠0 by decide)
   have e2:=Int.emod_lt_of_pos ha (show(0:Int)<401 by decide)
   have e3:=Int.emod_nonneg ha (show(12:Int)≠0 by decide)
   have e4:=Int.emod_lt_of_pos ha (show(0:Int)<12 by decide)
   have e5:=Int.emod_nonneg ha (show(5:Int)≠0 by decide)
   have e6:=Int.emod_lt_of_pos ha (show(0:Int)<5 by decide)
   have m3:(0:Int)<(mn:Int)+3:=by omega
   have e7:=Int.emod_nonneg ha (show(mn:Int)+3≠0 by omega)
   have e8:=Int.emod_lt_of_pos ha m3
   refine⟨fun σ' H'=>∃l,Same H4 H'/\H' l=some (.lst [.int (ha % 401-200),.int (-(mn:Int)-ha % 12)])/\σ'=st2 sc (some (.int ce)) (some (.int (fg:Int))) (some (.int (mn:Int))) (some (.int ha)) (some (.ref l)) none none none,⟨_,rfl,_,_,rfl,rfl,(by decide:(0:Int)<401),_,_,rfl,rfl,_,rfl,_,rfl,_,rfl,_,_,rfl,rfl,(by decide:(0:Int)<12),_,_,rfl,rfl,z2,fun l nl=>⟨l,Same.upd nl,A9,rfl⟩⟩,?_⟩
   rintro σ' H5 ⟨l,s5,el,rfl⟩
   refine⟨fun σ' H'=>∃l,Same H5 H'/\H' l=some (.lst [.int (ha % 401-200),.int (-(mn:Int)-ha % 12),.int (2-ha % 5),.int (-(ha % ((mn:Int)+3)))])/\σ'=st2 sc (some (.int ce)) (some (.int (fg:Int))) (some (.int (mn:Int))) (some (.int ha)) (some (.ref l)) none none none,?_,?_⟩
   . refine⟨_,rfl,_,rfl,_,_,rfl,rfl,(by decide:(0:Int)<5),_,_,rfl,rfl,_,rfl,_,rfl,_,_,rfl,rfl,_,_,rfl,rfl,m3,_,rfl,z2,fun l2 nl2=>?_⟩
     have u2:=Same.upd (o:= .lst [.int (2-ha % 5),.int (-(ha % ((mn:Int)+3)))]) nl2
     exact⟨l,l2,_,_,rfl,rfl,u2 _ _ el,A9,z4,fun l3 nl3=>⟨l3,u2.trans (Same.upd nl3),A9,rfl⟩⟩
   rintro σ' H6 ⟨l2,s6,el2,rfl⟩
   refine⟨fun σ' H'=>∃pw:Int, -200<=pw/\pw<=200/\H'=H6/\σ'=st2 sc (some (.int ce)) (some (.int (fg:Int))) (some (.int (mn:Int))) (some (.int ha)) (some (.ref l2)) (some (.int pw)) none none,?_,?_⟩
   . obtain⟨o,ho,ix⟩:=ixs (xs:=[ha % 401-200, -(mn:Int)-ha % 12,2-ha % 5, -(ha % ((mn:Int)+3))]) (i:=ce/802 % 4) (Int.emod_nonneg _ (by decide)) (by show ce/802 % 4<4;exact Int.emod_lt_of_pos _ (by decide))
     have ob: -200<=o/\o<=200:=by
       simp only[List.mem_cons,List.not_mem_nil,or_false] at ho
       omega
     exact⟨_,rfl,_,rfl,_,_,rfl,rfl,⟨by decide,by decide+kernel⟩,_,_,rfl,rfl,(by decide:(0:Int)<4),l2,_,_,_,rfl,rfl,SqL.of el2,ix,o,ob.1,ob.2,rfl,rfl⟩
   rintro σ' H7 ⟨pw,pw0,pw1,rfl,rfl⟩
   have sg:=Int.emod_two_eq ce
   have f0:(fg:Int)<=10^60-1:=by
     have e60:((10^60:Nat):Int)=10^60:=by decide+kernel
     omega
   have sH:Same H1 H7:=s3.trans (s5.trans s6)
   refine⟨fun σ' H'=>∃n,Same H7 H'/\NumIs CN H' n ⟨.plain,ce % 2,(fg:Int),pw⟩/\σ'=st2 sc (some (.int ce)) (some (.int (fg:Int))) (some (.int (mn:Int))) (some (.int ha)) (some (.ref l2)) (some (.int pw)) (some (.ref n)) none,⟨_,rfl,_,_,rfl,rfl,d2.1,_,rfl,_,rfl,_,_,_,rfl,.inl ⟨⟨ce % 2,rfl,by omega,by omega⟩,⟨(fg:Int),rfl,by omega,f0⟩,⟨pw,rfl,pw0,pw1⟩,fun n H' nn s' num=>⟨n,s',num,rfl⟩⟩⟩,?_⟩
   rintro σ' H8 ⟨n,s8,num,rfl⟩
   refine⟨fun σ' H'=>∃mo:Int,H'=H8/\σ'=st2 sc (some (.int ce)) (some (.int (fg:Int))) (some (.int (mn:Int))) (some (.int ha)) (some (.ref l2)) (some (.int pw)) (some (.ref n)) (some (.int mo)),⟨_,rfl,sc,ns,_,rfl,(sH.trans s8).seq hS,by omega,fun c=>⟨c,1,rfl,by decide,by decide,fun m m0 m1=>⟨m,rfl,rfl⟩⟩⟩,?_⟩
   rintro σ' H9 ⟨mo,rfl,rfl⟩
   have okP:(⟨.plain,ce % 2,(fg:Int),pw⟩:Nm).Ok:=⟨by show 0<=ce % 2;omega,by show ce % 2<=1;omega,by show(0:Int)<=(fg:Int);omega,f0,pw0,pw1⟩
   refine⟨fun σ' H'=>σ'=st2 sc (some (.int ce)) (some (.int (fg:Int))) (some (.int (mn:Int))) (some (.int ha)) (some (.ref l2)) (some (.int pw)) (some (.ref n)) (some (.int mo)),⟨_,rfl,_,rfl,_,_,rfl,rfl,d2.1,_,rfl,_,rfl,⟨.plain,ce % 2,(fg:Int),pw⟩,rfl,okP,rfl,fun H' s'=>⟨_,rfl,n,⟨.plain,ce % 2,(fg:Int),pw⟩,mo,rfl,num.same s',okP,(fun q=>nomatch q),(fun q=>nomatch q),fun H'' s''=>⟨_,rfl,U6 rfl⟩⟩⟩,?_⟩
   rintro σ' H10 rfl
   have okE:(⟨.end_,ce % 2,0,0⟩:Nm).Ok:=⟨by show 0<=ce % 2;omega,by show ce % 2<=1;omega,by show(0:Int)<=0;decide,by show(0:Int)<=10^60-1;decide,by show(-200:Int)<=0;decide,by show(0:Int)<=200;decide⟩
   have tE:U3 "-" (ce % 2)++("end":Str)=S (wrL ⟨.end_,ce % 2,0,0⟩):=by
     rcases sg with q|q<;>rw[q]<;>decide+kernel
   have n1:("-":Str).length=1:=by decide+kernel
   have n3:("end":Str).length=3:=by decide+kernel
   refine⟨fun σ' H'=>σ'=st2 sc (some (.int ce)) (some (.int (fg:Int))) (some (.int (mn:Int))) (some (.int ha)) (some (.ref l2)) (some (.int pw)) (some (.ref n)) (some (.int mo)),⟨_,rfl,_,_,rfl,rfl,d2.1,_,rfl,.inl ⟨⟨ce % 2,rfl,by omega,by omega⟩,fun m H' nm s' nm'=>⟨_,rfl,_,_,rfl,rfl,d2.1,_,_,rfl,rfl,by omega,by omega,by rw[n1];exact A2 (by omega),_,_,rfl,rfl,by rw[A3q,n1,n3];exact A2 (by omega),_,rfl,m,⟨.end_,ce % 2,0,0⟩,mo,by rw[<-tE];rfl,nm',okE,(fun _=>⟨rfl,rfl⟩),(fun q=>nomatch q),fun H'' s''=>⟨_,rfl,U6 rfl⟩⟩⟩⟩,?_⟩
   rintro σ' H11 rfl
   have okN:(⟨.none,0,0,0⟩:Nm).Ok:=⟨by show(0:Int)<=0;decide,by show(0:Int)<=1;decide,by show(0:Int)<=0;decide,by show(0:Int)<=10^60-1;decide,by show(-200:Int)<=0;decide,by show(0:Int)<=200;decide⟩
   exact⟨rfl,fun m H' nm s' nm'=>⟨_,rfl,m,⟨.none,0,0,0⟩,mo,by rw[show S (wrL ⟨.none,0,0,0⟩)="none" from litNone.symm];rfl,nm',okN,(fun q=>nomatch q),(fun _=>⟨rfl,rfl,rfl⟩),fun H'' s''=>⟨_,rfl,Z9 ⟨_,rfl,_,_,rfl,rfl,⟨by decide,by decide+kernel⟩,_,rfl,fun _ _=>kk _⟩⟩⟩⟩
end
noncomputable def Fa (K:Frag) (x:Str) (st:Stmt):Prop:=∃(f:Addr) (oc:Value) (od:Option Addr) (osl:Array (Option Value)) (kV doc pm:Value) (an:Option Addr) (cdv ct:Value),nsIn K mainGlobals x=some (some (.ref f))/\K.lookup f=some ⟨oc,od,.func (fnOf x x (D7 st) (D5 st) (A6 st) .none kV doc pm an cdv ct),osl⟩/\codeIn K cdv x=true/\keepIn K (.ref f)=true
theorem Fa.mk{K:Frag}{x:Str}{st:Stmt}{oc:Value}{od an:Option Addr}{osl:Array (Option Value)}{kV doc pm cdv ct:Value}(a:nsIn K mainGlobals x=some (some (.ref f)))(l:K.lookup f=some ⟨oc,od,.func (fnOf x x (D7 st) (D5 st) (A6 st) .none kV doc pm an cdv ct),osl⟩)(c:codeIn K cdv x=true)(k:keepIn K (.ref f)=true):Fa K x st:=
 ⟨_,_,_,_,_,_,_,_,_,_,a,l,c,k⟩
noncomputable def Fb (K:Frag) (C:Addr) (m q:Str) (st:Stmt):Prop:=∃(f:Addr) (oc:Value) (od:Option Addr) (osl:Array (Option Value)) (kV doc pm:Value) (an:Option Addr) (cdv ct:Value),findIn K (.ref C) m=some (some (.ref f))/\isFn K (.ref f)=true/\K.lookup f=some ⟨oc,od,.func (fnOf m q (D7 st) (D5 st) (A6 st) .none kV doc pm an cdv ct),osl⟩/\codeIn K cdv q=true/\keepIn K (.ref f)=true
theorem Fb.mk{K:Frag}{C:Addr}{m q:Str}{st:Stmt}{oc:Value}{od an:Option Addr}{osl:Array (Option Value)}{kV doc pm cdv ct:Value}(a:findIn K (.ref C) m=some (some (.ref f)))(i:isFn K (.ref f)=true)(l:K.lookup f=some ⟨oc,od,.func (fnOf m q (D7 st) (D5 st) (A6 st) .none kV doc pm an cdv ct),osl⟩)(c:codeIn K cdv q=true)(k:keepIn K (.ref f)=true):Fb K C m q st:=
 ⟨_,_,_,_,_,_,_,_,_,_,a,i,l,c,k⟩
theorem Fa.go0{K:Frag}{h:Heap}{mg:Str ->Option Value}{x:Str}{st:Stmt}(u:Fa K x st)(X:K.In h)(G:h.Ns mainGlobals mg)
   (hb:∀(kV doc pm:Value) (an:Option Addr) (cdv ct:Value),bindArgs (fnOf x x (D7 st) (D5 st) (A6 st) .none kV doc pm an cdv ct) ⟨[],[]⟩=pure ([].zip []):=by intros;rfl):∃f fd,Def K mg x [] st f fd:=by
 obtain⟨_,_,_,_,_,_,_,_,_,_,a,l,c,k⟩:=u
 exact⟨_,_,A3z X G a l c k fun kV d p an cd ct us hl=>match us,hl with| [],_=>hb kV d p an cd ct⟩
theorem Fa.go1{K:Frag}{h:Heap}{mg:Str ->Option Value}{x:Str}{p0:Str}{st:Stmt}(u:Fa K x st)(X:K.In h)(G:h.Ns mainGlobals mg)
   (hb:∀(kV doc pm:Value) (an:Option Addr) (cdv ct:Value) (u0:Value),bindArgs (fnOf x x (D7 st) (D5 st) (A6 st) .none kV doc pm an cdv ct) ⟨[u0],[]⟩=pure ([p0].zip [u0]):=by intros;rfl):∃f fd,Def K mg x [p0] st f fd:=by
 obtain⟨_,_,_,_,_,_,_,_,_,_,a,l,c,k⟩:=u
 exact⟨_,_,A3z X G a l c k fun kV d p an cd ct us hl=>match us,hl with| [_],_=>hb kV d p an cd ct _⟩
theorem Fa.go2{K:Frag}{h:Heap}{mg:Str ->Option Value}{x:Str}{p0 p1:Str}{st:Stmt}(u:Fa K x st)(X:K.In h)(G:h.Ns mainGlobals mg)
   (hb:∀(kV doc pm:Value) (an:Option Addr) (cdv ct:Value) (u0 u1:Value),bindArgs (fnOf x x (D7 st) (D5 st) (A6 st) .none kV doc pm an cdv ct) ⟨[u0,u1],[]⟩=pure ([p0,p1].zip [u0,u1]):=by intros;rfl):∃f fd,Def K mg x [p0,p1] st f fd:=by
 obtain⟨_,_,_,_,_,_,_,_,_,_,a,l,c,k⟩:=u
 exact⟨_,_,A3z X G a l c k fun kV d p an cd ct us hl=>match us,hl with| [_,_],_=>hb kV d p an cd ct _ _⟩
theorem Fa.go3{K:Frag}{h:Heap}{mg:Str ->Option Value}{x:Str}{p0 p1 p2:Str}{st:Stmt}(u:Fa K x st)(X:K.In h)(G:h.Ns mainGlobals mg)
   (hb:∀(kV doc pm:Value) (an:Option Addr) (cdv ct:Value) (u0 u1 u2:Value),bindArgs (fnOf x x (D7 st) (D5 st) (A6 st) .none kV doc pm an cdv ct) ⟨[u0,u1,u2],[]⟩=pure ([p0,p1,p2].zip [u0,u1,u2]):=by intros;rfl):∃f fd,Def K mg x [p0,p1,p2] st f fd:=by
 obtain⟨_,_,_,_,_,_,_,_,_,_,a,l,c,k⟩:=u
 exact⟨_,_,A3z X G a l c k fun kV d p an cd ct us hl=>match us,hl with| [_,_,_],_=>hb kV d p an cd ct _ _ _⟩
end TR
namespace TR
open PySem L2 PySem.W PyProof.Rows
theorem all_mk{l:OpenLaw}{w:World}{K:Frag}{h:Heap}{mg:Str ->Option Value}{fa CN A5c C1 C2 C3 C4 C5 CR B5c:Addr}(X:K.In h)(G:h.Ns mainGlobals mg)(hfa:mg "law"=some (.ref fa))
   (c7:Fa K "plain" A3m)
   (d0:Fa K "end" B2u)
   (ba:Fa K "nothing" Y2)
   (cg:Fa K "told" A9q)
   (ci:Fa K "lead_of" B0h)
   (c8:Fa K "need_number" A3k)
   (d3:Fa K "is_between" B1k)
   (bc:Fa K "need_between" A0h)
   (bd:Fa K "written" A0k)
   (bv:Fa K "worth_written" A2x)
   (az:Fa K "with_point" Y9)
   (b8:Fa K "with_lead" A0s)
   (cj:Fa K "read" A9u)
   (bw:Fa K "sign_of" A1p)
   (bx:Fa K "without_sign" A1c)
   (a_:Fa K "plain_read" Y6)
   (bf:Fa K "figures_read" A1h)
   (b0:Fa K "shift_read" Z3)
   (bg:Fa K "need_figures" A0e)
   (bz:Fa K "are_figures" A2y)
   (ck:Fa K "_law_cell_at" B0q)
   (c9:Fa K "_law_mixed" A3t)
   (cm:Fa K "_law_ten" B6m)
   (cn:Fa K "_law_figures" A0b)
   (cb:Fa K "_law_word" A6x)
   (cp:Fa K "_law_refused" A3b)
   (b_:Fa K "_law_is_clean" A3a)
   (bi:Fa K "_law_digits" Z8)
   (cf:Fa K "_law_text" A5g)
   (c0:Fa K "_law_shown" A2z)
   (c3:Fa K "_law_round" A2u)
   {C0y B5q:Option Addr} {C0w:Array (Option Value)} {C0f B5a B5p B5g A9k B5d:Value}
   (B0y:nsIn K mainGlobals "law"=some (some (.ref B5c))) (B5b:K.lookup B5c=some ⟨C0f,C0y,.func (fnOf "law" "law" (D7 A5x) (D5 A5x) (A6 A5x) .none B5a B5p B5g B5q A9k B5d),C0w⟩) (B5n:codeIn K A9k "law"=true) (B5s:keepIn K (.ref B5c)=true)
   (d4:OwnK K)
   (T:Kit K)
   (sn:specialIn K (.builtin "object.__class__") "__get__"=some (some (.builtin "getset_descriptor.__get__")))
   (tk:takesIn K (.builtin "object.__class__")=some true)
   (C1b:nsIn K mainGlobals "Number"=some (some (.ref CN)))
   (B5k:Cls K CN)
   (B4z:makesIn K CN=true)
   (B5m:keepIn K (.ref CN)=true)
   (B5h:findIn K (.ref CN) "__class__"=some (some (.builtin "object.__class__")))
   (B5u:mroIn K CN (.type "object")=some true)
   (A2d:findIn K (.ref CN) "kind"=some none)
   (A2e:findIn K (.ref CN) "sign"=some none)
   (Z4:findIn K (.ref CN) "figures"=some none)
   (A0z:findIn K (.ref CN) "power"=some none)
   (B4y:findIn K (.ref CN) "__init__"=some (some (.ref A5c)))
   (B5f:isFn K (.ref A5c)=true)
   {C0s C0q:Option Addr} {C0z:Array (Option Value)} {C0p C0h C0e C1a B5r C0k:Value} (B5e:K.lookup A5c=some ⟨C0p,C0s,.func (fnOf "__init__" "Number.__init__" (D7 A4w) (D5 A4w) (A6 A4w) .none C0h C0e C1a C0q B5r C0k),C0z⟩)
   (B5t:codeIn K B5r "Number.__init__"=true)
   (B5j:keepIn K (.ref A5c)=true)
   (A6c:kitOne K (.ref CN) (.ref CN)=some true)
   (B7y:nsIn K mainGlobals "BadNumber"=some (some (.ref C1)))
   (B7x:nsIn K mainGlobals "NoText"=some (some (.ref C2)))
   (C0r:nsIn K mainGlobals "BadContext"=some (some (.ref C3)))
   (C0u:nsIn K mainGlobals "BadCount"=some (some (.ref C4)))
   (C0v:nsIn K mainGlobals "Trapped"=some (some (.ref C5)))
   (C0t:nsIn K mainGlobals "ReckonError"=some (some (.ref CR)))
   (cty:typeIn K (.ref CR)=some (.type "type"))
   {dR:ClassData} (ccl:clsIn K CR=some dR)
   (cex:subIn K (.ref CR) (.type "BaseException")=some true)
   (q1:excIn K C1 [.type "ValueError",.type "Exception",.type "BaseException",.type "object"] "ValueError.__new__"=true)
   (sub1:subIn K (.ref C1) (.ref CR)=some true)
   (xga1:findIn K (.ref C1) "__getattribute__"=some (some (.builtin "BaseException.__getattribute__")))
   (xgh1:findIn K (.ref C1) "__getattr__"=some none)
   (xca1:findIn K (.ref C1) "__class__"=some (some (.builtin "object.__class__")))
   (xob1:mroIn K C1 (.type "object")=some true)
   (xbe1:subIn K (.ref C1) (.type "BaseException")=some true)
   {d1:ClassData} (xcl1:clsIn K C1=some d1)
   (C0x:kitOne K (.ref C1) (.ref C1)=some true)
   (C0j:kitOne K (.ref C1) (.ref C2)=some false)
   (C0n:kitOne K (.ref C1) (.ref C3)=some false)
   (C0g:kitOne K (.ref C1) (.ref C4)=some false)
   (C0m:kitOne K (.ref C1) (.ref C5)=some false)
   (hv1:kitOne K (.ref C1) (.type "ValueError")=some true)
   (q2:excIn K C2 [.type "ValueError",.type "Exception",.type "BaseException",.type "object"] "ValueError.__new__"=true)
   (A0n:kitOne K (.type "NoneType") (.ref CN)=some false)
   (A9j:kitOne K (.type "int") (.ref CN)=some false)
   (A9h:kitOne K (.type "str") (.ref CN)=some false)
   (A6f:kitOne K (.type "bool") (.ref CN)=some false)
   (A4d:kitOne K (.type "tuple") (.ref CN)=some false)
   (A6d:kitOne K (.type "list") (.ref CN)=some false)
   (A6e:kitOne K (.type "dict") (.ref CN)=some false):
   ∃fd:FuncData,(∀(s:Shared) (v:Value),BindsTo s fd ⟨[v],[]⟩ [("_law_script",v)])/\∀base:Heap,K.In base ->base.Ns mainGlobals mg ->FnOk l.prog w K mg base (CX1 l.prog w) 7 fa fd ["_law_script"] (A9n K):=by
 have e:=hfa.symm.trans (mg_of X G B0y)
 cases e
 obtain⟨em,_,ao⟩:=c7.go3 X G
 obtain⟨gd,_,b9⟩:=d0.go1 X G
 obtain⟨dh,_,aa⟩:=ba.go0 X G
 obtain⟨g0,_,bj⟩:=cg.go1 X G
 obtain⟨g6,_,bo⟩:=ci.go1 X G
 obtain⟨eo,_,ap⟩:=c8.go1 X G
 obtain⟨gf,_,c5⟩:=d3.go3 X G
 obtain⟨dj,_,ar⟩:=bc.go3 X G
 obtain⟨dk,_,ac⟩:=bd.go1 X G
 obtain⟨dv,_,av⟩:=bv.go1 X G
 obtain⟨cy,_,af⟩:=az.go2 X G
 obtain⟨d5,_,am⟩:=b8.go2 X G
 obtain⟨g7,_,bp⟩:=cj.go1 X G
 obtain⟨dy,_,ai⟩:=bw.go1 X G
 obtain⟨dz,_,aj⟩:=bx.go1 X G
 obtain⟨cz,_,ag⟩:=a_.go2 X G
 obtain⟨dm,_,au⟩:=bf.go1 X G
 obtain⟨c_,_,ah⟩:=b0.go1 X G
 obtain⟨dq,_,ad⟩:=bg.go1 X G
 obtain⟨d_,_,c4⟩:=bz.go1 X G
 obtain⟨g8,_,bq⟩:=ck.go2 X G
 obtain⟨er,_,aq⟩:=c9.go2 X G
 obtain⟨g9,_,cq⟩:=cm.go1 X G
 obtain⟨gb,_,br⟩:=cn.go2 X G
 obtain⟨ez,_,b6⟩:=cb.go1 X G
 obtain⟨gc,_,bt⟩:=cp.go1 X G
 obtain⟨e9,_,aw⟩:=b_.go1 X G
 obtain⟨du,_,ae⟩:=bi.go1 X G
 obtain⟨e_,_,b7⟩:=cf.go3 X G
 obtain⟨ef,_,ax⟩:=c0.go2 X G
 obtain⟨eg,_,ay⟩:=c3.go3 X G
 have C2n:=A3z (ps:=["_law_script"]) (st:=A5x) X G B0y B5b B5n B5s fun _ _ _ _ _ _ us hl=>match us,hl with| [_],_=>rfl
 have O:Own mg:=d4.go X G
 have c6:=A7v (st:=A4w) B5e B5t B5j
 have C2m:=c6.binds (ps:=["self","kind","sign","figures","power"]) fun _ _ _ _ _ _ us hl=>match us,hl with| [_,_,_,_,_],_=>rfl
 have C3p:Mk K CN A5c:=⟨B4z,B4y,B5f,B5m⟩
 have N:Num K mg CN:=⟨mg_of X G C1b,B5k,A2d,A2e,Z4,A0z,B5h,sn,tk,B5u,A6c⟩
 have xk1:ExcK K C1:=⟨xga1,xgh1,xca1,sn,tk,xob1,xbe1,by rw[xcl1];rfl⟩
 have O4:Own4 K CN:=⟨A0n,A9j,A9h,A6f,A4d,A6d,A6e,T.list_tuple⟩
 have B:Err K mg "BadNumber" C1:=⟨mg_of X G B7y,q1⟩
 have B2:Err K mg "NoText" C2:=⟨mg_of X G B7x,q2⟩
 have ES:ErrsN mg C1 C2 C3 C4 C5:=⟨mg_of X G B7y,mg_of X G B7x,mg_of X G C0r,mg_of X G C0u,mg_of X G C0v⟩
 have C:CaughtN K mg CR C1 C2 C3 C4 C5:=⟨mg_of X G C0t,⟨cty,by rw[ccl];rfl,cex⟩,sub1,⟨xk1,C0x,C0j,C0n,C0g,C0m,hv1⟩⟩
 refine⟨fnOf "law" "law" (D7 A5x) (D5 A5x) (A6 A5x) .none B5a B5p B5g B5q A9k B5d,fun s v=> .of_eq rfl,fun base _ _=>?_⟩
 have M:MakeN l.prog w K mg base CN A5c _:=⟨C3p,B6j c6 N,C2m⟩
 have cr:=A6w (P:=l.prog) (w:=w) (base:=base) ap O T B N
 have d9:=B7c (P:=l.prog) (w:=w) (base:=base) bj ap O T B N
 have bu:=B2w (P:=l.prog) (w:=w) (base:=base) ao ar c5 O T B N M
 have cx:=C0d (P:=l.prog) (w:=w) (base:=base) b9 ar c5 O T B N M
 have ak:=A8v (P:=l.prog) (w:=w) (base:=base) aa N M
 have db:=B7b (P:=l.prog) (w:=w) (base:=base) bo O N
 have Gsg:=B1z (P:=l.prog) (w:=w) (base:=base) ai
 have Gns:=B1r (P:=l.prog) (w:=w) (base:=base) aj
 have Gnf:=A8b (P:=l.prog) (w:=w) (base:=base) ad c4 B2
 have Gfr:=A8p (P:=l.prog) (w:=w) (base:=base) au ad Gnf B2 O
 have Gsh:=A5p (P:=l.prog) (w:=w) (base:=base) ah ad Gnf aj Gns ai Gsg B2 O
 have Gpr:=A5v (P:=l.prog) (w:=w) (base:=base) ag au Gfr ah Gsh ao bu O
 have Grd:=B7r (P:=l.prog) (w:=w) (base:=base) bp aa ak aj Gns ai Gsg b9 cx ag Gpr B2 O T
 have Gwp:=A5e (P:=l.prog) (w:=w) (base:=base) af O
 have Gwl:=A7h (P:=l.prog) (w:=w) (base:=base) am O
 have Gww:=B1a (P:=l.prog) (w:=w) (base:=base) av bo db af Gwp am Gwl N O
 have Gwr:=A8c (P:=l.prog) (w:=w) (base:=base) ac ap cr av Gww N
 have de:=B6e (P:=l.prog) (w:=w) (base:=base) bq O
 have eh:=A6z (P:=l.prog) (w:=w) (base:=base) aq
 have df:=A8a (P:=l.prog) (w:=w) (base:=base) br aq cq O
 have dg:=B6z (P:=l.prog) (w:=w) (base:=base) b6 O T ES
 have ek:=B2j (P:=l.prog) (w:=w) (base:=base) bt aa ak ac Gwr b6 dg C O4 O
 have Gcl:=B2n (P:=l.prog) (w:=w) (base:=base) aw O T
 have Gdg:=A9d (P:=l.prog) (w:=w) (base:=base) ae O
 have Gtx:=B3v (P:=l.prog) (w:=w) (base:=base) b7 ae Gdg O
 have Gsn:=B1g (P:=l.prog) (w:=w) (base:=base) ax
 have Gro:=B1w (P:=l.prog) (w:=w) (base:=base) ay ac Gwr bj d9 bp Grd ax Gsn aw Gcl O T
 exact B9c C2n bq de aq eh br df ae Gdg ao bu b9 cx aa ak b7 Gtx ay Gro bt ek O
theorem walk{l:OpenLaw}{q:Program}{loose:List Str}{XP:(Str ->Option Value) ->Heap ->Prop}{YP:World ->Heap ->Prop}{d:DefRec}{K:Params ->Frag}(hn:l.most=some 63)(hdf:d.params.defaults=[])
   (hY:∀(w:World) (h:Heap),YP w h ->(K w.params).In h)
   (F:∀(w:World) (mg:Str ->Option Value) (fa:Addr) (h:Heap),(K w.params).In h ->h.Ns mainGlobals mg ->mg d.name=some (.ref fa) ->
     ∃fd:FuncData,(∀(s:Shared) (u:Value),BindsTo s fd ⟨[u],[]⟩ [("_law_script",u)])/\∀base:Heap,(K w.params).In base ->base.Ns mainGlobals mg ->FnOk l.prog w (K w.params) mg base (CX1 l.prog w) 7 fa fd ["_law_script"] ((A9n (K w.params)))):
   WalkO q loose XP YP l.row.toRowW d [] (fun f vs=>PySem.call f vs):=
 L2.walk_of (n:=63) (k:=7) (x:="_law_script") (CX:=fun w=>CX1 l.prog w) (sp:=fun w=>(A9n (K w.params))) hn (by decide) hdf ⟨rfl,by decide,by decide⟩ hY F (fun _ _ a ns hl _ hS=>⟨a,ns,rfl,hl,hS,fun _=>rfl⟩) fun _ _ _ _ _ z=>by
   obtain⟨_,_,_,_,_,_,_,_,_,_,z,_⟩:=z
   exact z
end TR
namespace PySem.W.Fast
theorem tw1678813221376223539:True:=trivial
theorem tw3298115017398312395:True:=trivial
theorem tw5027415185944264828:True:=trivial
theorem tw16578429929392615587:True:=trivial
theorem tw4511513568420304518:True:=trivial
theorem tw6911088478080270918:True:=trivial
theorem tw16111676462350868082:True:=trivial
theorem tw12950565222341751612:True:=trivial
theorem tw357896902077212082:True:=trivial
theorem tw3745439239955127020:True:=trivial
theorem tw5143614888168969777:True:=trivial
theorem tw18215418274102374646:True:=trivial
theorem tw10355101221188942495:True:=trivial
theorem tw12633383747331826717:True:=trivial
theorem tw12263406379964430935:True:=trivial
theorem tw15058589376558925471:True:=trivial
theorem tw1338045554360266586:True:=trivial
theorem tw4185465510562663524:True:=trivial
theorem tw7092578614502203743:True:=trivial
theorem tw5120635647502081999:True:=trivial
theorem tw7076523866169856542:True:=trivial
theorem tw5885253740219806694:True:=trivial
theorem tw6503245333357961917:True:=trivial
theorem tw10586109716964854175:True:=trivial
theorem tw5731163585317947219:True:=trivial
theorem tw9908633474910352779:True:=trivial
theorem tw9799175677634408226:True:=trivial
theorem tw17960834932466693386:True:=trivial
theorem tw4320011835604994383:True:=trivial
theorem tw9159365051262821462:True:=trivial
theorem tw16098368542562059142:True:=trivial
theorem tw10527409375868964825:True:=trivial
theorem tw10434770906602464648:True:=trivial
end PySem.W.Fast
open PySem PySem.W PyProof.Rows
set_option maxRecDepth 100000 in
set_option maxHeartbeats 0 in
theorem PySem.Challenge.cw_tenreckon_k02_written_and_read_holds : PySem.Challenge.rw_tenreckon_k02_written_and_read.Holds := by
 w_on; o_law; k_head; (case hw => w_witness2)
 k_fill
 refine TR.walk (l := PySem.Challenge.rw_tenreckon_k02_written_and_read) rfl rfl (fun w h Y => PySem.W.kIn_of Y) ?F
 case F =>
   intro w mg fa h KX G hmg
   refine' TR.all_mk KX G hmg ?Zc7 ?Zd0 ?Zba ?Zcg ?Zci ?Zc8 ?Zd3 ?Zbc ?Zbd ?Zbv ?Zaz ?Zb8 ?Zcj ?Zbw ?Zbx ?Za_ ?Zbf ?Zb0 ?Zbg ?Zbz ?Zck ?Zc9 ?Zcm ?Zcn ?Zcb ?Zcp ?Zb_ ?Zbi ?Zcf ?Zc0 ?Zc3 ?ZB0y ?ZB5b ?ZB5n ?ZB5s ?Zd4 ?ZT ?Zsn ?Ztk ?ZC1b ?ZB5k ?ZB4z ?ZB5m ?ZB5h ?ZB5u ?ZA2d ?ZA2e ?ZZ4 ?ZA0z ?ZB4y ?ZB5f ?ZB5e ?ZB5t ?ZB5j ?ZA6c ?ZB7y ?ZB7x ?ZC0r ?ZC0u ?ZC0v ?ZC0t ?Zcty ?Zccl ?Zcex ?Zq1 ?Zsub1 ?Zxga1 ?Zxgh1 ?Zxca1 ?Zxob1 ?Zxbe1 ?Zxcl1 ?ZC0x ?ZC0j ?ZC0n ?ZC0g ?ZC0m ?Zhv1 ?Zq2 ?ZA0n ?ZA9j ?ZA9h ?ZA6f ?ZA4d ?ZA6d ?ZA6e
   case Zc7|Zd0|Zba|Zcg|Zci|Zc8|Zd3|Zbc|Zbd|Zbv|Zaz|Zb8|Zcj|Zbw|Zbx|Za_|Zbf|Zb0|Zbg|Zbz|Zck|Zc9|Zcm|Zcn|Zcb|Zcp|Zb_|Zbi|Zcf|Zc0|Zc3 => (refine' TR.Fa.mk ?a ?l ?c ?k; (case a => k_is); (case l => k_is); (case c => k_is); (case k => k_is))
   case ZB0y|ZB5b|ZB5n|ZB5s => k_is
   case Zd4 => constructor <;> k_is
   case ZT => constructor <;> kit_is
   case Zsn|Ztk|ZC1b => k_is
   case ZB5k => constructor <;> k_is
   case ZB4z|ZB5m|ZB5h|ZB5u|ZA2d|ZA2e|ZZ4|ZA0z|ZB4y|ZB5f|ZB5e|ZB5t|ZB5j => k_is
   case ZA6c => kit_is
   case ZB7y|ZB7x|ZC0r|ZC0u|ZC0v|ZC0t|Zcty|Zccl|Zcex => k_is
   case Zq1 => k_exc
   case Zsub1|Zxga1|Zxgh1|Zxca1|Zxob1|Zxbe1|Zxcl1 => k_is
   case ZC0x|ZC0j|ZC0n|ZC0g|ZC0m|Zhv1 => kit_is
   case Zq2 => k_exc
   case ZA0n|ZA9j|ZA9h|ZA6f|ZA4d|ZA6d|ZA6e => kit_is

