import PyProof.Rows.All
import Wide.All
import OpenK.KLine
import OpenK.KOwn
import KE.RegKIsAll
import KE.KItem
import KE.LcSums
import KE.KPairTest
import Wide.FinOn
import Lean
import PyProof.EqAt
import PyProof.EqKinds
import PyProof.TupleCall
import PyProof.Rows.Catch
import PyProof.Rows.TupIter
import PyProof.TupleIter
import PyProof.Seq
import PyProof.ExcInit
import PyProof.ExcClass2
import KE.KIntText
import PyProof.StrOps2
import PyProof.ConsumeWalk
import PyProof.Rows.RuleM_int
import PyProof.ZipIter
import PyProof.EnumMake
import PyProof.Rows.TupAssign
import PyProof.Rows.Range3
import PyProof.DictWalks
import PyProof.DictUpdate
import PyProof.P3In
import PySem.Challenge.RW_tenreckon_k13_whole_neighbours
set_option Elab.async false
set_option linter.all false
set_option maxRecDepth 100000
namespace L2
open PySem PySem.Spec PyProof.Rows
noncomputable abbrev Key:=Sum Int Str
noncomputable def Y8m:Key ->Value ->Bool
 | .inl k,v=>Value.isInt k v
 | .inr x,v=>Value.isStrOf x v
noncomputable def keyH (w:World):Key ->Int
 | .inl k=>hashInt k
 | .inr x=>hashStr w x
theorem U4:∀{k:Key} {v:Value},Y8m k v=true ->(∃i t,k=Sum.inl i/\v=Value.int i t)\/(∃x t,k=Sum.inr x/\v=Value.str x t)
 | .inl i,v,h=>by
   obtain⟨t,e⟩:=Value.isInt_shape (k:=i) (v:=v) h
   exact .inl ⟨i,t,rfl,e⟩
 | .inr x,v,h=>by
   obtain⟨t,e⟩:=Value.isStrOf_shape (x:=x) (v:=v) h
   exact .inr ⟨x,t,rfl,e⟩
theorem Y9n(a b:Int):decide ((Sum.inl a:Key)=Sum.inl b)=(a==b):=by
 by_cases e:a=b
 . subst e;simp
 . have h:¬(Sum.inl a:Key)=Sum.inl b:=fun q=>e (Sum.inl.inj q)
   rw[decide_eq_false h]
   exact(beq_eq_false_iff_ne.mpr e).symm
theorem Z1a(a b:Str):decide ((Sum.inr a:Key)=Sum.inr b)=decide (a=b):=by
 by_cases e:a=b
 . subst e;simp
 . have h:¬(Sum.inr a:Key)=Sum.inr b:=fun q=>e (Sum.inr.inj q)
   rw[decide_eq_false h,decide_eq_false e]
theorem Z1n(a:Int)(b:Str):decide ((Sum.inl a:Key)=Sum.inr b)=false:=decide_eq_false (fun q=>nomatch q)
theorem Z0w(a:Str)(b:Int):decide ((Sum.inr a:Key)=Sum.inl b)=false:=decide_eq_false (fun q=>nomatch q)
noncomputable def J7m (prog:Program) (w:World):PySem.KeyKind prog w Key where
 is:=Y8m
 hash:=keyH w
 inj :=fun v a b ha hb=>by
   rcases U4 ha with⟨i,t,rfl,rfl⟩|⟨x,t,rfl,rfl⟩
   . rcases U4 hb with⟨j,u,rfl,e⟩|⟨y,u,rfl,e⟩
     . injection e with e1 _;rw[e1]
     . exact nomatch e
   . rcases U4 hb with⟨j,u,rfl,e⟩|⟨y,u,rfl,e⟩
     . exact nomatch e
     . injection e with e1 _;rw[e1]
 byValue:=fun k v h=>by
   rcases U4 h with⟨i,t,rfl,rfl⟩|⟨x,t,rfl,rfl⟩<;>rfl
 pyHash:=fun hv h=>by
   rcases U4 hv with⟨i,t,rfl,rfl⟩|⟨x,t,rfl,rfl⟩
   . exact wpAny_pyHash_int h
   . exact wpAny_pyHash_str h
 eqBool:=fun hu hv h=>by
   rcases U4 hu with⟨i,t,rfl,rfl⟩|⟨x,t,rfl,rfl⟩
   . rcases U4 hv with⟨j,u,rfl,rfl⟩|⟨y,u,rfl,rfl⟩
     . rw[Y9n] at h;exact wpAny_eqBool_int h
     . rw[Z1n] at h;exact SeqAt.EqAt.int_str i t y u _ _ _ _ h
   . rcases U4 hv with⟨j,u,rfl,rfl⟩|⟨y,u,rfl,rfl⟩
     . rw[Z0w] at h;exact SeqAt.EqAt.str_int x t j u _ _ _ _ h
     . rw[Z1a] at h;exact wpAny_eqBool_str h
 «strs» := fun k x t v h => by
   rcases U4 h with⟨i,u,rfl,e⟩|⟨y,u,rfl,e⟩
   . exact nomatch e
   . injection e with e1 _
     subst e1
     cases v<;>rfl
inductive V where
 |non|bl (b:Bool)|int (i:Int)|str (x:Str)|byt (b:Array UInt8)|flt (b:UInt64)|ref (a:Addr)|ty (n:String)
 deriving DecidableEq
noncomputable def RelV:V ->Value ->Prop
 | .non,u=>u=Value.none
 | .bl b,u=>u=Value.bool b
 | .int i,u=>∃t,u=Value.int i t
 | .str x,u=>∃t,u=Value.str x t
 | .byt b,u=>∃t,u=Value.bytes b t
 | .flt b,u=>∃t,u=Value.float b t
 | .ref a,u=>u=Value.ref a
 | .ty n,u=>u=Value.type n
noncomputable abbrev Vals:List V ->List Value ->Prop:=Paired RelV
theorem Vals.length{xs:List V}{us:List Value}(r:Vals xs us):xs.length=us.length:=Paired.length r
theorem Vals.get:∀{xs:List V} {us:List Value} {i:Nat} {x:V},Vals xs us ->xs[i]?=some x ->∃u,us[i]?=some u/\RelV x u
 |_,_,_,_,.nil,e=>by simp at e
 |_,_,0,_,.cons r _,e=>by simp at e;subst e;exact⟨_,rfl,r⟩
 | _,_,i+1,x,.cons _ t,e=>by
   obtain⟨u,h1,h2⟩:=Vals.get (i:=i) (x:=x) t (by simpa using e)
   exact⟨u,by simpa using h1,h2⟩
theorem Vals.append:∀{xs ys:List V} {us ws:List Value},Vals xs us ->Vals ys ws ->Vals (xs++ys) (us++ws)
 |_,_,_,_,.nil,s=>s
 |_,_,_,_,.cons r t,s=> .cons r (Vals.append t s)
theorem Vals.take:∀{xs:List V} {us:List Value} (n:Nat),Vals xs us ->Vals (xs.take n) (us.take n)
 |_,_,0,_=> .nil
 |_,_,_+1,.nil=> .nil
 |_,_,n+1,.cons r t=> .cons r (Vals.take n t)
theorem Vals.drop:∀{xs:List V} {us:List Value} (n:Nat),Vals xs us ->Vals (xs.drop n) (us.drop n)
 |_,_,0,r=>r
 |_,_,_+1,.nil=> .nil
 |_,_,n+1,.cons _ t=>Vals.drop n t
noncomputable def RelO:Option V ->Option Value ->Prop
 |some v,some u=>RelV v u
 |none,none=>True
 |_,_=>False
noncomputable def KV {κ:Type}:List (κ×V) ->List (κ×Value) ->Prop:=Paired fun(p:κ×V) (q:κ×Value)=>p.1=q.1/\RelV p.2 q.2
noncomputable def kV:Key ->V
 | .inl i=> .int i
 | .inr x=> .str x
inductive HO where
 |lst (xs:List V)
 |tup (xs:List V)
 |dK (kvs:List (Key×V))|dT (kvs:List (List Key×V))
 |set (S:Int ->Bool) (n:Nat)
 |ins (C dx:Addr) (fs:List (Str×V))
 |own (x:Addr)
 |xd (fs:List (Str×V))
 |met (f x:Addr)
 |rng (lo hi:Int)
 |frz (o:Obj) (u:HO)
 |tbl (ps:Array Value)
 |ext (φ:Heap ->Prop)
noncomputable abbrev Hp:=Addr ->Option HO
noncomputable def upd (H:Hp) (a:Addr) (o:HO):Hp:=fun b=>if b=a then some o else H b
theorem A8{H:Hp}{a:Addr}{o:HO}:upd H a o a=some o:=by unfold upd;rw[if_pos rfl]
theorem C9{H:Hp}{a b:Addr}{o:HO}(h:b≠a):upd H a o b=H b:=by unfold upd;rw[if_neg h]
theorem Y5p{H:Hp}{a:Addr}{o u:HO}:upd (upd H a o) a u=upd H a u:=by
 funext b;unfold upd;split<;>rfl
theorem U7a{H:Hp}{a b:Addr}{o u:HO}(h:H a=some o)(h':H b=some u)(d:o≠u):a≠b:=by
 intro e;subst e;rw[h] at h';exact d (Option.some.inj h')
theorem D0{H:Hp}{a b:Addr}{o:HO}(h:H a=some o)(h':H b=none):a≠b:=by
 intro e;subst e;rw[h] at h';cases h'
section
variable(P:Program)(w:World)
noncomputable def ObjOk (H:Hp) (h:Heap) (a:Addr):HO ->Prop
 | .lst xs=>xs.length<=sizeLine/\∃(its:List Value) (n:Nat),Vals xs its/\h.get? a=some {cls:= .type "list",data:= .seq its.toArray n}
 | .tup xs=>xs.length<=sizeLine/\∃its:List Value,Vals xs its/\IsTup h a its.toArray
 | .dK kvs=>kvs.length<=sizeLine/\(a==sysModules)=false/\∃vs,KV kvs vs/\h.DictOf (J7m P w) a vs
 | .dT kvs=>kvs.length<=sizeLine/\(a==sysModules)=false/\∃xs:List (List Key×Addr×Value),
     Paired (fun(p:List Key×V) (q:List Key×Addr×Value)=>p.1=q.1/\H q.2.1=some (.tup (p.1.map kV))/\RelV p.2 q.2.2) kvs xs/\
     ∃o es ep,h.get? a=some o/\o.ExactDict/\o.data= .dict es ep/\es.toList=xs.map (entryOfKey (tupleKind (J7m P w)))/\(xs.map (·.1)).Nodup
 | .set S n=>h.SetOf (intKind P w) a S n
 | .ins C dx fs=>H dx=some (.own a)/\fs.length<=1000/\dx≠a/\h.get? a=some (PySem.W.instObj C dx)/\
     ∃mA,h.Ns1 dx mA/\(∀f,RelO (fs.lookup f) (mA f))/\PySem.Within mA (fs.map (·.1))
 | .own _=>∃o,h.get? a=some o
 | .xd fs=>∃mA,h.Ns1 a mA/\∀f,RelO (fs.lookup f) (mA f)
 | .rng lo hi=>∃t u v,h.get? a=some {cls:= .type "range",data:= .fields #[.int lo t,.int hi u,.int 1 v]}
 | .frz o u=>h.get? a=some o/\ObjOk H h a u
 | .tbl ps=>h.get? a=some {cls:= .none,data:= .fields ps}
 | .met f x=>h.get? a=some (PySem.W.methodObj (.ref f) (.ref x))
 | .ext φ=>φ h/\(∃o,h.get? a=some o)/\∀h1 h2:Heap,φ h1 ->(∀o,h1.get? a=some o ->h2.get? a=some o) ->φ h2
noncomputable def HOk (H:Hp) (h:Heap):Prop:=∀a o,H a=some o ->ObjOk P w H h a o
end
section
variable{P:Program}{w:World}{H H':Hp}{h h':Heap}{a:Addr}{o:HO}
theorem ObjOk.lt(x:ObjOk P w H h a o):a<h.objs.size:=by
 cases o with
 |lst xs=>obtain⟨_,_,_,_,e⟩:=x;exact Heap.lt_size e
 |tup xs=>obtain⟨_,_,_,p⟩:=x;exact p.lt
 |dK kvs=>obtain⟨_,_,_,_,o,_,_,e,_⟩:=x;exact Heap.lt_size e
 |dT kvs=>obtain⟨_,_,_,_,o,_,_,e,_⟩:=x;exact Heap.lt_size e
 |set S n=>obtain⟨o,_,_,_,e,_⟩:=x;exact Heap.lt_size e
 |ins C dx fs=>obtain⟨_,_,_,e,_⟩:=x;exact Heap.lt_size e
 |own y=>obtain⟨_,e⟩:=x;exact Heap.lt_size e
 |xd fs=>obtain⟨_,⟨_,_,_,e,_⟩,_⟩:=x;exact Heap.lt_size e
 |rng lo hi=>obtain⟨_,_,_,e⟩:=x;exact Heap.lt_size e
 |frz ob u=>obtain⟨e,_⟩:=x;exact Heap.lt_size e
 |tbl ps=>exact Heap.lt_size (show h.get? a=some _ from x)
 |met f y=>exact Heap.lt_size (show h.get? a=some _ from x)
 |ext φ=>obtain⟨_,⟨_,e⟩,_⟩:=x;exact Heap.lt_size e
theorem Paired.mapP{α β:Type}{F G:α ->β ->Prop}:∀{l₁:List α} {l₂:List β},Paired F l₁ l₂ ->(∀a b,F a b ->G a b) ->Paired G l₁ l₂
 |_,_,.nil,_=> .nil
 |_,_,.cons r t,f=> .cons (f _ _ r) (Paired.mapP t f)
theorem ObjOk.stay(x:ObjOk P w H h a o)(k:∀b u,(b=a\/H b=some (.own a)) ->h.get? b=some u ->h'.get? b=some u)
   (ho:∀b,H b=some (.own a) ->H' b=some (.own a)) (ht:∀b xs,H b=some (.tup xs) ->H' b=some (.tup xs)):ObjOk P w H' h' a o:=by
 induction o with
 |lst xs=>obtain⟨z,its,n,r,e⟩:=x;exact⟨z,its,n,r,k _ _ (.inl rfl) e⟩
 |tup xs=>obtain⟨z,its,r,ob,e,c⟩:=x;exact⟨z,its,r,ob,k _ _ (.inl rfl) e,c⟩
 |dK kvs=>obtain⟨z,y,vs,r,ob,es,ep,e,c⟩:=x;exact⟨z,y,vs,r,ob,es,ep,k _ _ (.inl rfl) e,c⟩
 | dT kvs=>
   obtain⟨z,y,xs,r,ob,es,ep,e,c⟩:=x
   exact⟨z,y,xs,Paired.mapP r fun p q z=>⟨z.1,ht _ _ z.2.1,z.2.2⟩,ob,es,ep,k _ _ (.inl rfl) e,c⟩
 |set S n=>obtain⟨ob,es,ep,t,e,c⟩:=x;exact⟨ob,es,ep,t,k _ _ (.inl rfl) e,c⟩
 | ins C dx fs=>
   obtain⟨d,z,ne,e,mA,⟨od,es,ep,e2,c⟩,r⟩:=x
   exact⟨ho _ d,z,ne,k _ _ (.inl rfl) e,mA,⟨od,es,ep,k _ _ (.inr d) e2,c⟩,r⟩
 |own y=>obtain⟨ob,e⟩:=x;exact⟨ob,k _ _ (.inl rfl) e⟩
 |xd fs=>obtain⟨mA,⟨od,es,ep,e,c⟩,r⟩:=x;exact⟨mA,⟨od,es,ep,k _ _ (.inl rfl) e,c⟩,r⟩
 |rng lo hi=>obtain⟨t,u,v,e⟩:=x;exact⟨t,u,v,k _ _ (.inl rfl) e⟩
 |frz ob u ih=>obtain⟨e,q⟩:=x;exact⟨k _ _ (.inl rfl) e,ih q⟩
 | tbl ps=>
   have e:h.get? a=some {cls:= .none,data:= .fields ps}:=x
   show h'.get? a=some {cls:= .none,data:= .fields ps}
   exact k a _ (.inl rfl) e
 | met f y=>
   have e:h.get? a=some (PySem.W.methodObj (.ref f) (.ref y)):=x
   show h'.get? a=some (PySem.W.methodObj (.ref f) (.ref y))
   exact k a _ (.inl rfl) e
 |ext φ=>obtain⟨p,⟨o,e⟩,st⟩:=x;exact⟨st _ _ p fun o q=>k _ _ (.inl rfl) q,⟨o,k _ _ (.inl rfl) e⟩,st⟩
theorem HOk.lt(x:HOk P w H h)(e:H a=some o):a<h.objs.size:=(x a o e).lt
theorem HOk.fresh(x:HOk P w H h)(e:h.objs.size<=a):H a=none:=by
 cases q:H a with
 |none=>rfl
 |some u=>exact absurd (Nat.lt_of_lt_of_le (x.lt q) e) (Nat.lt_irrefl _)
theorem HOk.kept(x:HOk P w H h)(k:∀b u,h.get? b=some u ->h'.get? b=some u):HOk P w H h':=fun a o e=>
 (x a o e).stay (fun b u _ q=>k b u q) (fun _ q=>q) fun _ _ q=>q
theorem HOk.laid(x:HOk P w H h)(k:∀b u,h.get? b=some u ->h'.get? b=some u)(hp:h.objs.size<=a)(new:ObjOk P w (upd H a o) h' a o):HOk P w (upd H a o) h':=fun b u e=>by
 have hn:=x.fresh hp
 by_cases hb:b=a
 . subst hb;rw[A8] at e;cases e;exact new
 . rw[C9 hb] at e
   exact(x b u e).stay (fun c v _ q=>k c v q) (fun c q=>by rw[C9 (D0 q hn)];exact q) fun c xs q=>by rw[C9 (D0 q hn)];exact q
end
noncomputable def Rd (H:Hp) (a:Addr) (u:HO):Prop:=H a=some u\/∃o,H a=some (.frz o u)
theorem Rd.ok{P:Program}{w:World}{H:Hp}{h:Heap}{a:Addr}{u:HO}(r:Rd H a u)(x:HOk P w H h):ObjOk P w H h a u:=by
 rcases r with r|⟨o,r⟩
 . exact x a u r
 . obtain⟨_,q⟩:=x a _ r
   exact q
noncomputable def Mut:Option HO ->Prop
 |some (.lst _)=>True
 |some (.dK _)=>True
 |some (.dT _)=>True
 |some (.set _ _)=>True
 |some (.ins _ _ _)=>True
 |some (.ext _)=>True
 |_=>False
section
variable{P:Program}{w:World}{H:Hp}{h h':Heap}{x e:Addr}{o':HO}
theorem HOk.write(ok:HOk P w H h)(mu:Mut (H x))(he:e=x\/H e=some (.own x))(k:∀b u,b≠e ->h.get? b=some u ->h'.get? b=some u)(heo:∃u,h'.get? e=some u)
   (new:ObjOk P w (upd H x o') h' x o'):HOk P w (upd H x o') h':=fun b u q=>by
 have nown:∀c y,H c=some (.own y) ->c≠x:=fun c y r z=>by subst z;rw[r] at mu;exact mu
 have ntup:∀c xs,H c=some (.tup xs) ->c≠x:=fun c xs r z=>by subst z;rw[r] at mu;exact mu
 by_cases hb:b=x
 . subst hb;rw[A8] at q;cases q;exact new
 . rw[C9 hb] at q
   by_cases hbe:b=e
   . have q':H b=some (.own x):=by
       rcases he with z|z
       . exact absurd (hbe.trans z) hb
       . rw[hbe];exact z
     rw[q] at q';cases q'
     obtain⟨v,hv⟩:=heo
     exact⟨v,by rw[hbe];exact hv⟩
   . refine(ok b u q).stay (fun c v hc r=>k c v ?_ r) (fun c r=>by rw[C9 (nown c b r)];exact r) fun c xs r=>by rw[C9 (ntup c xs r)];exact r
     rcases hc with rfl|hc
     . exact hbe
     . rintro rfl
       rcases he with z|z
       . exact nown c b hc z
       . rw[hc] at z;cases z;exact hb rfl
end
structure Un(fs ex:List Addr)(H H':Hp)(h h':Heap):Prop where
 keep:∀b o,h.get? b=some o ->H b=none ->b ∉ fs ->b ∉ ex ->h'.get? b=some o
 slot:∀b o,h.get? b=some o ->H b=none ->b∈fs ->b ∉ ex ->∃sl,h'.get? b=some {o with slots:=sl}
 free:∀b o,h.get? b=some o ->H b=none ->b ∉ ex ->H' b=none
 there:∀b o,h.get? b=some o ->b ∉ ex ->∃o',h'.get? b=some o'
 tups:∀b xs,H b=some (.tup xs) ->H' b=some (.tup xs)
 frzs:∀b o u,H b=some (.frz o u) ->H' b=some (.frz o u)
 tbls:∀b ps,H b=some (.tbl ps) ->∃more,H' b=some (.tbl (ps++more))
section
variable{fs fs' ex ex':List Addr}{H H1 H2:Hp}{h h1 h2 h':Heap}{a x e:Addr}{o:HO}
theorem Un.any(u:Un fs ex H H1 h h1){b:Addr}{ob:Obj}(q:h.get? b=some ob)(n:H b=none)(hx:b ∉ ex):∃sl,h1.get? b=some {ob with slots:=sl}:=by
 by_cases hb:b∈fs
 . exact u.slot b ob q n hb hx
 . exact⟨ob.slots,u.keep b ob q n hb hx⟩
theorem Un.kept(k:∀b u,h.get? b=some u ->h'.get? b=some u):Un fs ex H H h h':=
 ⟨fun b ob q _ _ _=>k b ob q,fun b ob q _ _ _=>⟨ob.slots,k b ob q⟩,fun _ _ _ n _=>n,fun b ob q _=>⟨ob,k b ob q⟩,fun _ _ q=>q,fun _ _ _ q=>q,fun _ ps q=>⟨#[],by rw[q];simp⟩⟩
theorem Un.refl:Un fs ex H H h h:=Un.kept fun _ _ q=>q
theorem Un.laid(k:∀b u,h.get? b=some u ->h'.get? b=some u)(hp:h.objs.size<=a)(hn:H a=none):Un fs ex H (upd H a o) h h' where
 keep:=fun b u q _ _ _=>k b u q
 slot:=fun b u q _ _ _=>⟨u.slots,k b u q⟩
 free:=fun b u q n _=>by rw[C9 (Nat.ne_of_lt (Nat.lt_of_lt_of_le (Heap.lt_size q) hp))];exact n
 there:=fun b u q _=>⟨u,k b u q⟩
 tups:=fun b xs q=>by rw[C9 (D0 q hn)];exact q
 frzs:=fun b u xs q=>by rw[C9 (D0 q hn)];exact q
 tbls:=fun b ps q=>⟨#[],by rw[C9 (D0 q hn),q];simp⟩
theorem Un.write(mu:Mut (H x))(he:e=x\/H e=some (.own x))(k:∀b u,b≠e ->h.get? b=some u ->h'.get? b=some u)(heo:∃u,h'.get? e=some u):Un fs ex H (upd H x o) h h':=by
 have hx:∀b,H b=none ->b≠x:=fun b n z=>by subst z;rw[n] at mu;exact mu
 have hb:∀b,H b=none ->b≠e:=fun b n z=>by
   subst z
   rcases he with r|r
   . exact hx b n r
   . rw[n] at r;cases r
 have hm:∀b u,H b=some u ->¬Mut (some u) ->b≠x:=fun b u q nm z=>by subst z;rw[q] at mu;exact nm mu
 refine⟨fun b u q n _ _=>k b u (hb b n) q,fun b u q n _ _=>⟨u.slots,k b u (hb b n) q⟩,fun b u q n _=>by rw[C9 (hx b n)];exact n,fun b u q _=>?_,
   fun b xs q=>by rw[C9 (hm b _ q fun z=>z)];exact q,fun b u xs q=>by rw[C9 (hm b _ q fun z=>z)];exact q,fun b ps q=>⟨#[],by rw[C9 (hm b _ q fun z=>z),q];simp⟩⟩
 by_cases hbe:b=e
 . subst hbe;exact heo
 . exact⟨u,k b u hbe q⟩
end
noncomputable def trk (h:Heap) (H:Hp):List Addr:=(List.range h.objs.size).filter fun a=>(H a).isSome
noncomputable def D1v (h:Heap) (H:Hp):Heap:=PySem.W.hideAll h (trk h H)
theorem J8x(h:Heap)(H:Hp):(D1v h H).objs.size=h.objs.size:=PySem.W.hideAll_size _ _
theorem U7k{h:Heap}{H:Hp}{b:Addr}{o:Obj}(e:h.get? b=some o)(n:H b=none):(D1v h H).get? b=some o:=
 PySem.W.hideAll_get _ e fun hm=>by
   have q:(H b).isSome=true:=(List.mem_filter.mp hm).2
   rw[n] at q;simp at q
theorem Y5e{h:Heap}{H:Hp}{b:Addr}{o:Obj}(e:(D1v h H).get? b=some o):h.get? b=some o/\H b=none:=by
 have e':h.get? b=some o:=PySem.W.of_hideAll (trk h H) e
 refine⟨e',?_⟩
 cases q:H b with
 |none=>rfl
 | some x=>
   have hm:b∈trk h H:=List.mem_filter.mpr ⟨List.mem_range.mpr (Heap.lt_size e'),by simp[q]⟩
   have z:(D1v h H).get? b=none:=PySem.W.hideAll_none (trk h H) hm
   rw[z] at e;cases e
structure Mod(K:PySem.W.Frag)(mg:Str ->Option Value)(base:Heap):Prop where
 kin:K.In base
 glob:base.Ns mainGlobals mg
 blt:∃mb,base.Ns builtinsNs mb/\∀x:Str,x≠"__name__" ->mb x=bootBuiltins x
 nolimit:base.NoLimit
structure Cx where
 prog:Program
 w:World
 K:PySem.W.Frag
 mg:Str ->Option Value
 base:Heap
 A:Around
 N:List Str
 s₀:Shared
 H₀:Hp
 env:Env
 outer:List Env
 stack:List Env
 ex:List Addr
 fn:Str ->Bool
 calm:Bool
 pn:List (Addr×Obj)
 xe:Value ->Shared ->Prop
noncomputable def frs (l:List Env):List Addr:=l.filterMap (·.frame)
noncomputable abbrev Cx.fs (X:Cx):List Addr:=frs X.outer
noncomputable def Vis (sc:Scope) (x:Str):Prop:=sc.names.lookup x=some .local\/sc.names.lookup x=some .cell\/sc.names.lookup x=some .free
noncomputable def Loc (sc:Scope) (x:Str):Prop:=sc.names.lookup x=some .local\/sc.names.lookup x=some .cell
noncomputable def Z4t (env:Env) (h:Heap) (m:Str ->Option Value) (x:Str) (u:Value):Prop:=
 (env.kindOf x=some .local/\m x=some u)\/((env.kindOf x=some .cell\/env.kindOf x=some .free)/\∃c,env.cells.lookup x=some c/\h.IsCell c (some u))
structure Cx.Ok(X:Cx):Prop where
 mod:Mod X.K X.mg X.base
 kind:X.env.scope.kind= .function
 glob:X.env.globals=mainGlobals
 blt:X.env.builtins=builtinsNs
 above:X.s₀.heap.objs.size<=X.env.locals
 inj:∀x y c,X.env.cells.lookup x=some c ->X.env.cells.lookup y=some c ->x=y
 has:∀x,(X.env.kindOf x=some .cell\/X.env.kindOf x=some .free) ->∃c,X.env.cells.lookup x=some c
 cab:∀x c,X.fn x=true ->X.env.cells.lookup x=some c ->X.s₀.heap.objs.size<=c
 hd:X.calm=true ->X.A.handled=none
 frames:X.A.frames=some X.stack
 stk:X.stack=X.outer\/(X.stack=X.env::X.outer/\X.env.frame=some X.env.locals)
 exf:∀b∈X.ex,b≠X.env.locals/\∀x c,X.env.cells.lookup x=some c ->c≠b
 bs:∀b o,X.base.get? b=some o ->X.s₀.heap.get? b=some o/\X.H₀ b=none
 bsz:X.base.objs.size<=X.s₀.heap.objs.size
 noex:∀b o,X.base.get? b=some o ->b ∉ X.ex
 exfs:∀b∈X.ex,b ∉ X.fs
 funs:X.s₀.heap.FunFrames X.base X.outer
 frf:∀b∈X.fs,X.H₀ b=none
structure Inv(X:Cx)(pins:List (Addr×Obj))(σ:List (Option V))(H:Hp)(s:Shared):Prop where
 ok:X.Ok
 os:s.os=X.s₀.os
 bare:AllBare s.gens
 base:Un X.fs X.ex X.H₀ H X.s₀.heap s.heap
 loc:∃m,s.heap.Ns X.env.locals m/\∀(i:Nat) (x:Str) (v:V),X.N[i]?=some x ->σ[i]?=some (some v) ->Vis X.env.scope x ->∃u,RelV v u/\Z4t X.env s.heap m x u
 cell:∀x c,X.env.cells.lookup x=some c ->∃v,s.heap.IsCell c v
 free:H X.env.locals=none
 freeC:∀x c,X.env.cells.lookup x=some c ->H c=none
 pin:∀p∈X.pn++pins,s.heap.get? p.1=some p.2/\H p.1=none/\p.1≠X.env.locals/\p.1 ∉ X.fs/\∀v,p.2.data≠ .cell v
 hok:HOk X.prog X.w H s.heap
 len:σ.length=X.N.length
section
variable{X:Cx}{pins:List (Addr×Obj)}{σ:List (Option V)}{H H':Hp}{s:Shared}{h':Heap}
theorem Cx.Ok.nofr(ok:X.Ok){b:Addr}{o:Obj}(e:X.base.get? b=some o):b ∉ X.fs:=fun hb=>by
 have:=(ok.funs.mem hb).1
 rw[e] at this;cases this
theorem Inv.bs(I:Inv X pins σ H s):∀b o,X.base.get? b=some o ->s.heap.get? b=some o/\H b=none:=fun b o e=>
 ⟨I.base.keep b o (I.ok.bs b o e).1 (I.ok.bs b o e).2 (I.ok.nofr e) (I.ok.noex b o e),I.base.free b o (I.ok.bs b o e).1 (I.ok.bs b o e).2 (I.ok.noex b o e)⟩
theorem Inv.bk(I:Inv X pins σ H s):∀b o,X.base.get? b=some o ->s.heap.get? b=some o:=fun b o e=>(I.bs b o e).1
theorem Inv.mod(I:Inv X pins σ H s):Mod X.K X.mg X.base:=I.ok.mod
theorem Inv.kIn(I:Inv X pins σ H s):X.K.In s.heap:=I.ok.mod.kin.keeps I.bk
theorem Inv.lt(I:Inv X pins σ H s):X.env.locals<s.heap.objs.size:=let⟨_,hn,_⟩:=I.loc;hn.lt
theorem Inv.sz(I:Inv X pins σ H s):X.s₀.heap.objs.size<=s.heap.objs.size:=Nat.le_trans I.ok.above (Nat.le_of_lt I.lt)
theorem Inv.nofs(I:Inv X pins σ H s){a:Addr}(h:s.heap.objs.size<=a):a ∉ X.fs:=fun hb=>by
 obtain⟨_,o,ho,_⟩:=I.ok.funs.mem hb
 exact absurd (Nat.lt_of_lt_of_le (Heap.lt_size ho) (Nat.le_trans I.sz h)) (Nat.lt_irrefl _)
theorem Inv.cne(I:Inv X pins σ H s):∀x c,X.env.cells.lookup x=some c ->c≠X.env.locals:=fun x c e z=>by
 obtain⟨v,o,ho,hd⟩:=I.cell x c e
 obtain⟨m,⟨o',es,ep,ho',hd',_⟩,_⟩:=I.loc
 rw[z,ho'] at ho;cases ho;rw[hd'] at hd;cases hd
theorem Inv.funs(I:Inv X pins σ H s):s.heap.FunFrames X.base X.outer:=by
 have all:∀(l:List Env),(∀b∈frs l,b∈X.fs) ->X.s₀.heap.FunFrames X.base l ->s.heap.FunFrames X.base l:=by
   intro l
   induction l with
   |nil=>intro _ _;trivial
   | cons env r ih=>
     intro hs hl
     obtain⟨hk,⟨L,o,hf,hn,ho,hd⟩,hr⟩:=hl
     have hL:L∈X.fs:=hs L (by unfold frs;rw[List.filterMap_cons,hf];exact List.mem_cons_self)
     obtain⟨sl,e⟩:=I.base.slot L o ho (I.ok.frf L hL) hL fun z=>I.ok.exfs L z hL
     exact⟨hk,⟨L,_,hf,hn,e,hd⟩,ih (fun b hb=>hs b (by unfold frs;rw[List.filterMap_cons,hf];exact List.mem_cons_of_mem _ hb)) hr⟩
 exact all X.outer (fun _ hb=>hb) I.ok.funs
theorem Inv.stack(I:Inv X pins σ H s):s.heap.FunFrames X.base X.stack:=by
 rcases I.ok.stk with e|⟨e,hf⟩
 . rw[e];exact I.funs
 . rw[e]
   obtain⟨m,hn,_⟩:=I.loc
   refine .cons (by rw[I.ok.kind];decide) hf hn ?_ I.funs
   exact Heap.get?_none_of_le (Nat.le_trans I.ok.bsz I.ok.above)
theorem Inv.stkSub(I:Inv X pins σ H s):∀b∈frs X.stack,b∈X.env.locals::X.fs:=fun b hb=>by
 rcases I.ok.stk with e|⟨e,hf⟩
 . rw[e] at hb;exact List.mem_cons_of_mem _ hb
 . rw[e] at hb
   unfold frs at hb
   rw[List.filterMap_cons,hf] at hb
   exact hb
theorem Inv.stkFree(I:Inv X pins σ H s):∀b∈frs X.stack,H b=none:=fun b hb=>by
 rcases List.mem_cons.mp (I.stkSub b hb) with e|hb
 . rw[e];exact I.free
 . obtain⟨_,o,ho,_⟩:=I.ok.funs.mem hb
   exact I.base.free b o ho (I.ok.frf b hb) fun z=>I.ok.exfs b z hb
theorem Inv.step{g':Array GenState}{t':Nat}{d':Drawn}{ch:List Addr}(I:Inv X pins σ H s)
   (hch:∀b∈ch,(b∈X.ex\/X.s₀.heap.objs.size<=b)/\b≠X.env.locals/\(∀x c,X.env.cells.lookup x=some c ->c≠b)/\∀p∈X.pn++pins,p.1≠b)
   (keep:∀b o,b≠X.env.locals ->b ∉ X.fs ->b ∉ ch ->s.heap.get? b=some o ->H b=none ->h'.get? b=some o)
   (slot:∀b o,b≠X.env.locals ->b∈X.fs ->b ∉ ch ->s.heap.get? b=some o ->H b=none ->∃sl,h'.get? b=some {o with slots:=sl}) (free:∀b o,b ∉ ch ->s.heap.get? b=some o ->H b=none ->H' b=none)
   (there:∀b o,b ∉ ch ->s.heap.get? b=some o ->∃o',h'.get? b=some o')
   (tups:∀b xs,H b=some (.tup xs) ->H' b=some (.tup xs)) (frzs:∀b o u,H b=some (.frz o u) ->H' b=some (.frz o u)) (tbls:∀b ps,H b=some (.tbl ps) ->∃more,H' b=some (.tbl (ps++more)))
   (ns:∀m,s.heap.Ns X.env.locals m ->h'.Ns X.env.locals m) (hok:HOk X.prog X.w H' h') (hg:AllBare g'):
   Inv X pins σ H' {s with heap:=h',gens:=g',drawn:=d',toks:=t'}:=by
 have neL:∀b o,X.s₀.heap.get? b=some o ->b≠X.env.locals:=fun b o e=>Nat.ne_of_lt (Nat.lt_of_lt_of_le (Heap.lt_size e) I.ok.above)
 have neC:∀b o,X.s₀.heap.get? b=some o ->b ∉ X.ex ->b ∉ ch:=fun b o e hx hb=>by
   rcases(hch b hb).1 with z|z
   . exact hx z
   . exact absurd (Nat.lt_of_lt_of_le (Heap.lt_size e) z) (Nat.lt_irrefl _)
 have cellK:∀x c,X.env.cells.lookup x=some c ->∀v,s.heap.IsCell c v ->h'.IsCell c v:=fun x c e v ⟨o,ho,hd⟩=>by
   have nch:c ∉ ch:=fun z=>(hch c z).2.2.1 x c e rfl
   by_cases hc:c∈X.fs
   . obtain⟨sl,q⟩:=slot c o (I.cne x c e) hc nch ho (I.freeC x c e)
     exact⟨_,q,hd⟩
   . exact⟨o,keep c o (I.cne x c e) hc nch ho (I.freeC x c e),hd⟩
 refine⟨I.ok,I.os,hg,⟨fun b o e n hb hx=>?_,fun b o e n hb hx=>?_,fun b o e n hx=>?_,fun b o e hx=>?_,fun b xs e=>tups b xs (I.base.tups b xs e),fun b o xs e=>frzs b o xs (I.base.frzs b o xs e),fun b ps e=>?_⟩,?_,fun x c e=>?_,?_,fun x c e=>?_,fun p hp=>?_,hok,I.len⟩
 . exact keep b o (neL b o e) hb (neC b o e hx) (I.base.keep b o e n hb hx) (I.base.free b o e n hx)
 . obtain⟨sl,e1⟩:=I.base.slot b o e n hb hx
   obtain⟨sl',e2⟩:=slot b _ (neL b o e) hb (neC b o e hx) e1 (I.base.free b o e n hx)
   exact⟨sl',e2⟩
 . obtain⟨o',e1⟩:=I.base.there b o e hx
   exact free b o' (neC b o e hx) e1 (I.base.free b o e n hx)
 . obtain⟨o',e1⟩:=I.base.there b o e hx
   exact there b o' (neC b o e hx) e1
 . obtain⟨m1,e1⟩:=I.base.tbls b ps e
   obtain⟨m2,e2⟩:=tbls b _ e1
   exact⟨m1++m2,by rw[e2,Array.append_assoc]⟩
 . obtain⟨m,hn,hl⟩:=I.loc
   refine⟨m,ns m hn,fun i x v e1 e2 e3=>?_⟩
   obtain⟨u,r,l⟩:=hl i x v e1 e2 e3
   refine⟨u,r,?_⟩
   rcases l with l|⟨k,c,e,z⟩
   . exact .inl l
   . exact .inr ⟨k,c,e,cellK x c e _ z⟩
 . obtain⟨v,z⟩:=I.cell x c e
   exact⟨v,cellK x c e v z⟩
 . obtain⟨m,⟨o,_,_,ho,_⟩,_⟩:=I.loc
   exact free _ o (fun z=>(hch _ z).2.1 rfl) ho I.free
 . obtain⟨v,o,ho,hd⟩:=I.cell x c e
   exact free c o (fun z=>(hch c z).2.2.1 x c e rfl) ho (I.freeC x c e)
 . obtain⟨e,n,ne,nf,d⟩:=I.pin p hp
   have nch:p.1 ∉ ch:=fun z=>(hch p.1 z).2.2.2 p hp rfl
   exact⟨keep p.1 p.2 ne nf nch e n,free p.1 p.2 nch e n,ne,nf,d⟩
theorem Inv.un{t':Nat}(I:Inv X pins σ H s)(u:Un X.fs [] H H' s.heap h')(hok:HOk X.prog X.w H' h'):Inv X pins σ H' {s with heap:=h',toks:=t'}:=by
 obtain⟨m,⟨o,es,ep,ho,r⟩,_⟩:=id I.loc
 obtain⟨sl,hL⟩:=u.any ho I.free (by simp)
 exact I.step (g':=s.gens) (d':=s.drawn) (ch:=[]) (fun _ z=>nomatch z) (fun b o _ hb _ e n=>u.keep b o e n hb (by simp)) (fun b o _ hb _ e n=>u.slot b o e n hb (by simp)) (fun b o _ e n=>u.free b o e n (by simp)) (fun b o _ e=>u.there b o e (by simp)) u.tups u.frzs u.tbls (fun m' hm=>by
   obtain⟨o',es',ep',ho',r'⟩:=hm
   rw[ho] at ho';cases ho'
   exact⟨_,es',ep',hL,r'⟩) hok I.bare
theorem Inv.call{g':Array GenState}{t':Nat}{d':Drawn}{ch:List Addr}(I:Inv X pins σ H s)(u:Un (frs X.stack) ch H H' s.heap h')(hok:HOk X.prog X.w H' h')(hg:AllBare g')
   (hch:∀b∈ch,(b∈X.ex\/X.s₀.heap.objs.size<=b)/\b≠X.env.locals/\(∀x c,X.env.cells.lookup x=some c ->c≠b)/\∀p∈X.pn++pins,p.1≠b):
   Inv X pins σ H' {s with heap:=h',gens:=g',drawn:=d',toks:=t'}:=by
 obtain⟨m,⟨o,es,ep,ho,r⟩,_⟩:=id I.loc
 obtain⟨sl,hL⟩:=u.any ho I.free fun z=>(hch _ z).2.1 rfl
 exact I.step (ch:=ch) hch (fun b o hL hb hc e n=>u.keep b o e n (fun z=>(List.mem_cons.mp (I.stkSub b z)).elim hL hb) hc) (fun b o _ _ hc e n=>u.any e n hc) (fun b o hc e n=>u.free b o e n hc) (fun b o hc e=>u.there b o e hc) u.tups u.frzs u.tbls (fun m' hm=>by
   obtain⟨o',es',ep',ho',r'⟩:=hm
   rw[ho] at ho';cases ho'
   exact⟨_,es',ep',hL,r'⟩) hok hg
theorem Inv.turned{t':Nat}{it:Addr}(I:Inv X pins σ H s)(k:∀b o,b≠it ->s.heap.get? b=some o ->h'.get? b=some o)(hn:H it=none)(hL:it≠X.env.locals)
   (h1:it∈X.ex\/X.s₀.heap.objs.size<=it) (h2:∀x c,X.env.cells.lookup x=some c ->c≠it) (h3:∀p∈X.pn++pins,p.1≠it):Inv X pins σ H {s with heap:=h',toks:=t'}:=by
 have nit:∀b u,H b=some u ->b≠it:=fun b u e z=>by rw[z,hn] at e;cases e
 refine I.step (g':=s.gens) (d':=s.drawn) (ch:=[it]) (fun b hb=>?_) (fun b o _ _ hc e _=>k b o (fun z=>hc (by simp[z])) e) (fun b o _ _ hc e _=>⟨o.slots,k b o (fun z=>hc (by simp[z])) e⟩) (fun _ _ _ _ n=>n)
   (fun b o hc e=>⟨o,k b o (fun z=>hc (by simp[z])) e⟩) (fun _ _ e=>e) (fun _ _ _ e=>e) (fun b ps e=>⟨#[],by rw[e];simp⟩) (fun m hm=>?_) (fun b u e=>?_) I.bare
 . have e:b=it:=by simpa using hb
   subst e
   exact⟨h1,hL,h2,h3⟩
 . obtain⟨o,es,ep,ho,r⟩:=hm
   exact⟨o,es,ep,k _ o (Ne.symm hL) ho,r⟩
 . refine(I.hok b u e).stay (fun c v hc q=>k c v ?_ q) (fun _ q=>q) fun _ _ q=>q
   rcases hc with z|z
   . rw[z];exact nit b u e
   . exact nit c _ z
theorem Inv.tok(I:Inv X pins σ H s)(t:Nat):Inv X pins σ H {s with toks:=t}:=I.un (h':=s.heap) (t':=t) Un.refl I.hok
theorem Inv.kept{t':Nat}(I:Inv X pins σ H s)(k:∀b u,s.heap.get? b=some u ->h'.get? b=some u):Inv X pins σ H {s with heap:=h',toks:=t'}:=I.un (Un.kept k) (I.hok.kept k)
theorem Inv.laid{a:Addr}{o:HO}{t':Nat}(I:Inv X pins σ H s)(k:∀b u,s.heap.get? b=some u ->h'.get? b=some u)(hp:s.heap.objs.size<=a)(new:ObjOk X.prog X.w (upd H a o) h' a o):
   Inv X pins σ (upd H a o) {s with heap:=h',toks:=t'}:=I.un (Un.laid k hp (I.hok.fresh hp)) (I.hok.laid k hp new)
theorem Inv.write{x e:Addr}{o:HO}{t':Nat}(I:Inv X pins σ H s)(mu:Mut (H x))(he:e=x\/H e=some (.own x))(k:∀b u,b≠e ->s.heap.get? b=some u ->h'.get? b=some u)(heo:∃u,h'.get? e=some u)
   (new:ObjOk X.prog X.w (upd H x o) h' x o):Inv X pins σ (upd H x o) {s with heap:=h',toks:=t'}:=I.un (Un.write mu he k heo) (I.hok.write mu he k heo new)
theorem Inv.weak{σ':List (Option V)}(I:Inv X pins σ H s)(hl:σ'.length=σ.length)(w:∀(i:Nat) v,σ'[i]?=some (some v) ->σ[i]?=some (some v)):Inv X pins σ' H s:=
 ⟨I.ok,I.os,I.bare,I.base,let⟨m,hn,hl'⟩:=I.loc;⟨m,hn,fun i x v e1 e2 e3=>hl' i x v e1 (w i v e2) e3⟩,I.cell,I.free,I.freeC,I.pin,I.hok,hl.trans I.len⟩
theorem Inv.pins_of{pins':List (Addr×Obj)}(I:Inv X pins σ H s)(h:∀p∈pins',s.heap.get? p.1=some p.2/\H p.1=none/\p.1≠X.env.locals/\p.1 ∉ X.fs/\∀v,p.2.data≠ .cell v):Inv X pins' σ H s:=
 ⟨I.ok,I.os,I.bare,I.base,I.loc,I.cell,I.free,I.freeC,fun p hp=>(List.mem_append.mp hp).elim (fun z=>I.pin p (List.mem_append_left _ z)) (h p),I.hok,I.len⟩
theorem G2d{N:List Str}(hN:N.Nodup){i j:Nat}{x:Str}(a:N[i]?=some x)(b:N[j]?=some x):i=j:=by
 obtain⟨h1,e1⟩:=List.getElem?_eq_some_iff.mp a
 obtain⟨h2,e2⟩:=List.getElem?_eq_some_iff.mp b
 exact(List.getElem_inj hN).mp (e1.trans e2.symm)
theorem J8y{M:Model}{A:Around}{E:Value ->Shared ->Prop}{i:Nat}{x:Str}{v:V}{u:Value}{Q:Unit ->Shared ->Prop}(I:Inv X pins σ H s)(hN:X.N.Nodup)(hi:X.N[i]?=some x)(hx:Loc X.env.scope x)(r:RelV v u)
   (h:∀s',Inv X pins (σ.set i (some v)) H s' ->(∃a,Heap.SameBut a s.heap s'.heap/\(a=X.env.locals\/X.env.cells.lookup x=some a)) ->Q () s') (hf:X.fn x=true\/X.env.scope.names.lookup x=some .local:=by first|exact .inl rfl|exact .inr rfl|assumption):wpAny M A (storeName X.env x u) Q E s:=by
 obtain⟨m,hn,hl⟩:=id I.loc
 have hcls:(X.env.scope.kind== .class||(X.env.scope.kind== .module&&X.env.locals !=X.env.globals))=false:=by rw[I.ok.kind];rfl
 have hiσ:i<σ.length:=by rw[I.len];exact(List.getElem?_eq_some_iff.mp hi).1
 have cne:=I.cne
 have tracked:∀{a:Addr} {h':Heap},(∃o,s.heap.get? a=some o/\H a=none) ->Heap.SameBut a s.heap h' ->HOk X.prog X.w H h':=fun{a h'} ha hs b ob e=>by
   obtain⟨_,_,hfree⟩:=ha
   refine(I.hok b ob e).stay (fun c w' hc q=>(hs.2 c ?_).trans q) (fun _ q=>q) fun _ _ q=>q
   rintro rfl
   rcases hc with rfl|hc
   . rw[hfree] at e;cases e
   . rw[hfree] at hc;cases hc
 rcases hx with hk|hk
 . refine wpAny_storeName_local hk hn (fun h' hn' hs=>?_) hcls
   obtain⟨oL,_,_,hoL,_⟩:=id hn
   refine h _ ⟨I.ok,I.os,I.bare,⟨fun b o e n hb hx=>?_,fun b o e n hb hx=>?_,I.base.free,fun b o e hx=>?_,I.base.tups,I.base.frzs,I.base.tbls⟩,⟨_,hn',fun j y v' e1 e2 e3=>?_⟩,fun y c e=>?_,I.free,I.freeC,fun p hp=>?_,tracked ⟨oL,hoL,I.free⟩ hs,by simpa using I.len⟩ ⟨_,hs,.inl rfl⟩
   . exact(hs.2 b (Nat.ne_of_lt (Nat.lt_of_lt_of_le (Heap.lt_size e) I.ok.above))).trans (I.base.keep b o e n hb hx)
   . obtain⟨sl,e1⟩:=I.base.slot b o e n hb hx
     exact⟨sl,(hs.2 b (Nat.ne_of_lt (Nat.lt_of_lt_of_le (Heap.lt_size e) I.ok.above))).trans e1⟩
   . obtain⟨o',e1⟩:=I.base.there b o e hx
     exact⟨o',(hs.2 b (Nat.ne_of_lt (Nat.lt_of_lt_of_le (Heap.lt_size e) I.ok.above))).trans e1⟩
   . by_cases hj:j=i
     . subst hj
       rw[hi] at e1;cases e1
       rw[List.getElem?_set_self hiσ] at e2
       cases e2
       exact⟨u,r,.inl ⟨hk,by simp⟩⟩
     . rw[List.getElem?_set_ne (Ne.symm hj)] at e2
       obtain⟨u',r',q⟩:=hl j y v' e1 e2 e3
       refine⟨u',r',?_⟩
       rcases q with⟨k,e⟩|⟨k,c,e,z⟩
       . refine .inl ⟨k,?_⟩
         have:y≠x:=fun e=>hj (G2d hN e1 (e▸hi))
         simp[this,e]
       . exact .inr ⟨k,c,e,z.sameBut hs (cne y c e)⟩
   . obtain⟨w',z⟩:=I.cell y c e
     exact⟨w',z.sameBut hs (cne y c e)⟩
   . obtain⟨e,n,ne,nf,d⟩:=I.pin p hp
     exact⟨(hs.2 p.1 ne).trans e,n,ne,nf,d⟩
 . have hfn:X.fn x=true:=by
     rcases hf with z|z
     . exact z
     . rw[z] at hk;cases hk
   obtain⟨c,hc⟩:=I.ok.has x (.inl hk)
   obtain⟨w',z⟩:=I.cell x c hc
   refine wpAny_storeName_cell I.ok.kind hk hc z (fun h' hc' hs=>?_)
   obtain⟨oc,hoc,hocd⟩:=id z
   refine h {s with heap:=h'} ⟨I.ok,I.os,I.bare,⟨fun b o e n hb hx=>?_,fun b o e n hb hx=>?_,I.base.free,fun b o e hx=>?_,I.base.tups,I.base.frzs,I.base.tbls⟩,⟨m,hn.sameBut hs (Ne.symm (cne x c hc)),fun j y v' e1 e2 e3=>?_⟩,fun y c' e=>?_,I.free,I.freeC,fun p hp=>?_,tracked ⟨oc,hoc,I.freeC x c hc⟩ hs,by simpa using I.len⟩ ⟨c,hs,.inr hc⟩
   . exact(hs.2 b (Nat.ne_of_lt (Nat.lt_of_lt_of_le (Heap.lt_size e) (I.ok.cab x c hfn hc)))).trans (I.base.keep b o e n hb hx)
   . obtain⟨sl,e1⟩:=I.base.slot b o e n hb hx
     exact⟨sl,(hs.2 b (Nat.ne_of_lt (Nat.lt_of_lt_of_le (Heap.lt_size e) (I.ok.cab x c hfn hc)))).trans e1⟩
   . obtain⟨o',e1⟩:=I.base.there b o e hx
     exact⟨o',(hs.2 b (Nat.ne_of_lt (Nat.lt_of_lt_of_le (Heap.lt_size e) (I.ok.cab x c hfn hc)))).trans e1⟩
   . by_cases hj:j=i
     . subst hj
       rw[hi] at e1;cases e1
       rw[List.getElem?_set_self hiσ] at e2
       cases e2
       exact⟨u,r,.inr ⟨.inl hk,c,hc,hc'⟩⟩
     . rw[List.getElem?_set_ne (Ne.symm hj)] at e2
       obtain⟨u',r',q⟩:=hl j y v' e1 e2 e3
       refine⟨u',r',?_⟩
       rcases q with q|⟨k,c',e,z'⟩
       . exact .inl q
       . refine .inr ⟨k,c',e,z'.sameBut hs ?_⟩
         rintro rfl
         exact hj (G2d hN e1 (I.ok.inj _ _ _ e hc▸hi))
   . by_cases hcc:c'=c
     . subst hcc;exact⟨_,hc'⟩
     . obtain⟨w2,z2⟩:=I.cell y c' e
       exact⟨w2,z2.sameBut hs hcc⟩
   . obtain⟨e,n,ne,nf,d⟩:=I.pin p hp
     refine⟨(hs.2 p.1 ?_).trans e,n,ne,nf,d⟩
     intro q
     rw[q,hoc] at e
     have q':oc=p.2:=Option.some.inj e
     exact d w' (by rw[<-q'];exact hocd)
theorem C0n{M:Model}{A:Around}{E:Value ->Shared ->Prop}{i:Nat}{x:Str}{v:V}{u:Value}{Q:Unit ->Shared ->Prop}(I:Inv X pins σ H s)(hN:X.N.Nodup)(hi:X.N[i]?=some x)(hx:Loc X.env.scope x)(r:RelV v u)
   (h:∀s',Inv X pins (σ.set i (some v)) H s' ->Q () s') (hf:X.fn x=true\/X.env.scope.names.lookup x=some .local:=by first|exact .inl rfl|exact .inr rfl|assumption):wpAny M A (storeName X.env x u) Q E s:=
 J8y I hN hi hx r (fun s' I' _=>h s' I') hf
theorem Inv.call'{s':Shared}{ch:List Addr}(I:Inv X pins σ H s)(ho:s'.os=s.os)(u:Un (frs X.stack) ch H H' s.heap s'.heap)(hok:HOk X.prog X.w H' s'.heap)(hg:AllBare s'.gens)
   (hch:∀b∈ch,(b∈X.ex\/X.s₀.heap.objs.size<=b)/\b≠X.env.locals/\(∀x c,X.env.cells.lookup x=some c ->c≠b)/\∀p∈X.pn++pins,p.1≠b):Inv X pins σ H' s':=by
 obtain⟨h',g',d',t',o'⟩:=s'
 have e:o'=s.os:=ho
 subst e
 exact I.call (g':=g') (t':=t') (d':=d') u hok hg hch
end
noncomputable abbrev XK:=Value ->Option Addr ->Hp ->Prop
noncomputable abbrev St:=List (Option V)
noncomputable abbrev VK:=V ->Hp ->Prop
noncomputable abbrev TE:=St ->Hp ->VK ->Prop
noncomputable abbrev TT:=St ->Hp ->(Bool ->Hp ->Prop) ->Prop
noncomputable abbrev TA:=St ->Hp ->(List V ->Hp ->Prop) ->Prop
structure Ends where
 nx:St ->Hp ->Prop
 rt:VK
 bk:St ->Hp ->Prop:=fun _ _=>False
 ct:St ->Hp ->Prop:=fun _ _=>False
noncomputable abbrev TS:=Ends ->St ->Hp ->Prop
noncomputable def EP (X:Cx) (pins:List (Addr×Obj)) (σ:St) (Q:VK) (u:Value) (s':Shared):Prop:=∃v H',Inv X pins σ H' s'/\RelV v u/\Q v H'
noncomputable def TP (X:Cx) (pins:List (Addr×Obj)) (σ:St) (Q:Bool ->Hp ->Prop) (b:Bool) (s':Shared):Prop:=∃H',Inv X pins σ H' s'/\Q b H'
noncomputable def AP (X:Cx) (pins:List (Addr×Obj)) (σ:St) (Q:List V ->Hp ->Prop) (us:List Value) (s':Shared):Prop:=∃vs H',Inv X pins σ H' s'/\Vals vs us/\Q vs H'
noncomputable def SP (X:Cx) (pins:List (Addr×Obj)) (D:Ends) (f:Flow) (s':Shared):Prop:=
 match f with
 | .next=>∃σ' H',Inv X pins σ' H' s'/\D.nx σ' H'
 | .brk=>∃σ' H',Inv X pins σ' H' s'/\D.bk σ' H'
 | .cont=>∃σ' H',Inv X pins σ' H' s'/\D.ct σ' H'
 | .ret u=>∃v σ' H',Inv X pins σ' H' s'/\RelV v u/\D.rt v H'
noncomputable def PE (X:Cx) (e:Expr) (t:TE):Prop:=
 ∀(pins:List (Addr×Obj)) (s:Shared) (σ:St) (H:Hp) (Q:VK),Inv X pins σ H s ->t σ H Q ->wpAny (model X.prog X.w) X.A (eval e X.env) (EP X pins σ Q) X.xe s
noncomputable def PT (X:Cx) (e:Expr) (t:TT):Prop:=
 ∀(pins:List (Addr×Obj)) (s:Shared) (σ:St) (H:Hp) (Q:Bool ->Hp ->Prop),Inv X pins σ H s ->t σ H Q ->wpAny (model X.prog X.w) X.A (isTrue e X.env (eval e X.env)) (TP X pins σ Q) X.xe s
noncomputable def PW (X:Cx) (e:Expr) (t:TT):Prop:=
 ∀(whole:Sem Value) (pins:List (Addr×Obj)) (s:Shared) (σ:St) (H:Hp) (Q:Bool ->Hp ->Prop),Inv X pins σ H s ->t σ H Q ->wpAny (model X.prog X.w) X.A (isTrue e X.env whole) (TP X pins σ Q) X.xe s
theorem PW.pt{X:Cx}{e:Expr}{t:TT}(h:PW X e t):PT X e t:=h _
noncomputable def PA (X:Cx) (es:List Expr) (t:TA):Prop:=
 ∀(pos:Pos) (pins:List (Addr×Obj)) (s:Shared) (σ:St) (H:Hp) (Q:List V ->Hp ->Prop),Inv X pins σ H s ->t σ H Q ->wpAny (model X.prog X.w) X.A (spliced (backTo pos (starEach es X.env))) (AP X pins σ Q) X.xe s
noncomputable def PS (X:Cx) (st:Stmt) (t:TS):Prop:=
 ∀(pins:List (Addr×Obj)) (s:Shared) (σ:St) (H:Hp) (D:Ends),Inv X pins σ H s ->t D σ H ->wpAny (model X.prog X.w) X.A (exec st X.env) (SP X pins D) X.xe s
noncomputable def PSs (X:Cx) (st:List Stmt) (t:TS):Prop:=
 ∀(pins:List (Addr×Obj)) (s:Shared) (σ:St) (H:Hp) (D:Ends),Inv X pins σ H s ->t D σ H ->wpAny (model X.prog X.w) X.A (execs st X.env) (SP X pins D) X.xe s
theorem thn{α:Type}{t:Sem α}{Q Q':α ->Shared ->Prop}{M:Model}{A:Around}{E:Value ->Shared ->Prop}{s:Shared}(h:wpAny M A t Q E s)(hQ:∀a s,Q a s ->Q' a s):wpAny M A t Q' E s:=wpAny_mono h hQ fun _ _ x=>x
section
variable{X:Cx}
noncomputable def Z5w (i:Nat):TE:=fun σ H Q=>∃v,σ[i]?=some (some v)/\Q v H
noncomputable def tC (v:V):TE:=fun _ H Q=>Q v H
theorem Z0k{i:Nat}{x:Str}{pos:Pos}(hN:X.N[i]?=some x)(hv:Vis X.env.scope x)(hd:(x==("__debug__":Str))=false:=by decide)(hcd:(x==("__classdict__":Str))=false:=by decide):PE X (.Name x pos) (Z5w i):=by
 intro pins s σ H Q I h
 obtain⟨v,e,h⟩:=h
 obtain⟨m,hn,hl⟩:=I.loc
 obtain⟨u,r,l⟩:=hl i x v hN e hv
 have fin:EP X pins σ Q u s:=⟨v,H,I,r,h⟩
 rcases l with⟨hk,hm⟩|⟨hk,c,hc,hcell⟩
 . exact wpAny_Name (wpAny_loadName_local I.ok.kind hk hn hm fin) hd
 . rcases hk with hk|hk
   . exact wpAny_Name (wpAny_loadName_cell I.ok.kind hk hc hcell fin) hd
   . exact wpAny_Name (wpAny_loadName_free I.ok.kind hk hc hcell fin hcd) hd
theorem A3{i j pos}:PE X (.Constant (.int i) j pos) (tC (.int i)):=fun _ _ _ H _ I h=>wpAny_Constant_int ⟨.int i,H,I.tok _,⟨_,rfl⟩,h⟩
theorem A1h{b j pos}:PE X (.Constant (.bool b) j pos) (tC (.bl b)):=fun _ _ _ H _ I h=>Constant_bool ⟨.bl b,H,I,rfl,h⟩
theorem Z0f{j pos}:PE X (.Constant .none j pos) (tC .non):=fun _ _ _ H _ I h=>Constant_none ⟨.non,H,I,rfl,h⟩
theorem B9{x j pos}:PE X (.Constant (.str x) j pos) (tC (.str x)):=fun _ _ _ H _ I h=>Calls.Constant_str ⟨.str x,H,I.tok _,⟨_,rfl⟩,h⟩
noncomputable def Gl (X:Cx) (x:Str):Prop:=X.env.kindOf x=some .globalImplicit
theorem A3b{E:Value ->Shared ->Prop}{pins:List (Addr×Obj)}{s:Shared}{σ:St}{H:Hp}{x:Str}{u:Value}{pos:Pos}{Q:Value ->Shared ->Prop}(I:Inv X pins σ H s)(hg:Gl X x)(hm:X.mg x=some u)(h:Q u s)
   (hd:(x==("__debug__":Str))=false:=by decide):wpAny (model X.prog X.w) X.A (eval (.Name x pos) X.env) Q E s:=
 Calls.Name_function_global I.ok.kind hg (Calls.loadGlobal_global (by rw[I.ok.glob];exact I.mod.glob.keeps I.bk) hm h) hd
theorem C1w{E:Value ->Shared ->Prop}{pins:List (Addr×Obj)}{s:Shared}{σ:St}{H:Hp}{x:Str}{u:Value}{pos:Pos}{Q:Value ->Shared ->Prop}(I:Inv X pins σ H s)(hg:Gl X x)(hm:X.mg x=none)(hv:bootBuiltins x=some u)(h:Q u s)
   (hn:x≠"__name__":=by decide) (hd:(x==("__debug__":Str))=false:=by decide):wpAny (model X.prog X.w) X.A (eval (.Name x pos) X.env) Q E s:=by
 obtain⟨mb,h1,h2⟩:=I.mod.blt
 exact Calls.Name_function_global I.ok.kind hg (Calls.loadGlobal_builtin (by rw[I.ok.glob];exact I.mod.glob.keeps I.bk) hm (by rw[I.ok.blt];exact h1.keeps I.bk) ((h2 x hn).trans hv) h) hd
theorem Y5s{x:Str}{v:V}{u:Value}{pos:Pos}(hg:Gl X x)(hm:X.mg x=some u)(r:RelV v u)(hd:(x==("__debug__":Str))=false:=by decide):PE X (.Name x pos) (tC v):=
 fun _ _ _ H _ I h=>A3b I hg hm ⟨v,H,I,r,h⟩ hd
theorem Y4s{x:Str}{v:V}{u:Value}{pos:Pos}(hg:Gl X x)(hm:X.mg x=none)(hv:bootBuiltins x=some u)(r:RelV v u)(hn:x≠"__name__":=by decide)(hd:(x==("__debug__":Str))=false:=by decide):PE X (.Name x pos) (tC v):=
 fun _ _ _ H _ I h=>C1w I hg hm hv ⟨v,H,I,r,h⟩ hn hd
variable{a b:Expr}{ta tb:TE}{pos:Pos}
noncomputable def tB (t:TE):TT:=fun σ H Q=>t σ H fun x H1=>∃c,x= .bl c/\Q c H1
theorem V3{e:Expr}{t:TE}(h:PE X e t)(he:∀whole,isTrue e X.env whole=(do let v<-whole;standAt e.pos;holding [v] (truthy v)):=by intro _;rfl):PT X e (tB t):=by
 intro pins s σ H Q I hw
 refine isTrue_plain (thn (h pins s σ H _ I hw) fun v s1 hh_=>?_) (he _)
 obtain⟨x,H1,I1,r1,q1⟩:=hh_
 obtain⟨d,rfl,q⟩:=q1
 cases r1
 exact wpAny_truthy_bool ⟨H1,I1,q⟩
variable{tA tB':TT}{rest:List Expr}
noncomputable def tAnd (t u:TT):TT:=fun σ H Q=>t σ H fun c H1=>if c=true then u σ H1 Q else Q false H1
noncomputable def tOr (t u:TT):TT:=fun σ H Q=>t σ H fun c H1=>if c=true then Q true H1 else u σ H1 Q
noncomputable def Z9n (t:TT):TT:=fun σ H Q=>t σ H fun c H1=>Q (!c) H1
theorem C0c(ha:PT X a tA):PW X (.BoolOp .And [a] pos) tA:=by
 intro wh pins s σ H Q I h
 refine isTrue_and (thn (ha pins s σ H Q I h) fun c s1 e=>?_)
 cases c with
 |true=>exact isTrue_and_nil e
 |false=>exact e
theorem B5r(ha:PT X a tA):PW X (.BoolOp .Or [a] pos) tA:=by
 intro wh pins s σ H Q I h
 refine isTrue_or (thn (ha pins s σ H Q I h) fun c s1 e=>?_)
 cases c with
 |false=>exact isTrue_or_nil e
 |true=>exact e
theorem D2a(ha:PT X a tA)(hb:PW X (.BoolOp .And (b::rest) pos) tB'):PW X (.BoolOp .And (a::b::rest) pos) (tAnd tA tB'):=by
 intro wh pins s σ H Q I h
 refine isTrue_and (thn (ha pins s σ H _ I h) fun c s1 ⟨H1,I1,q1⟩=>?_)
 cases c with
 |true=>exact hb wh pins s1 σ H1 Q I1 q1
 |false=>exact⟨H1,I1,q1⟩
theorem B9n(ha:PT X a tA)(hb:PW X (.BoolOp .Or (b::rest) pos) tB'):PW X (.BoolOp .Or (a::b::rest) pos) (tOr tA tB'):=by
 intro wh pins s σ H Q I h
 refine isTrue_or (thn (ha pins s σ H _ I h) fun c s1 ⟨H1,I1,q1⟩=>?_)
 cases c with
 |true=>exact⟨H1,I1,q1⟩
 |false=>exact hb wh pins s1 σ H1 Q I1 q1
theorem A2b(ha:PT X a tA):PT X (.UnaryOp .Not a pos) (Z9n tA):=by
 intro pins s σ H Q I h
 exact isTrue_not (ha pins s σ H (fun c H1=>Q (!c) H1) I h)
noncomputable def Z4y (ta tb:TE):TE:=fun σ H Q=>ta σ H fun x H1=>∃c,x= .bl c/\if c=true then tb σ H1 Q else Q (.bl false) H1
noncomputable def tOrV (ta tb:TE):TE:=fun σ H Q=>ta σ H fun x H1=>∃c,x= .bl c/\if c=true then Q (.bl true) H1 else tb σ H1 Q
noncomputable def Z6b (ta:TE):TE:=fun σ H Q=>ta σ H fun x H1=>∃c,x= .bl c/\Q (.bl (!c)) H1
theorem Y7{op}{t:TE}(h:PE X a t):PE X (.BoolOp op [a] pos) t:=fun pins s σ H Q I hw=>BoolOp_one (h pins s σ H Q I hw)
theorem A2j(ha:PE X a ta)(hb:PE X (.BoolOp .And (b::rest) pos) tb):PE X (.BoolOp .And (a::b::rest) pos) (Z4y ta tb):=by
 intro pins s σ H Q I h
 refine BoolOp_and (thn (ha pins s σ H _ I h) fun v s1 hh_=>?_)
 obtain⟨x,H1,I1,r1,q1⟩:=hh_
 obtain⟨c,rfl,q1⟩:=q1
 cases r1
 refine wpAny_truthy_bool ?_
 cases c with
 |true=>exact hb pins s1 σ H1 Q I1 q1
 |false=>exact⟨.bl false,H1,I1,rfl,q1⟩
theorem U8a(ha:PE X a ta)(hb:PE X (.BoolOp .Or (b::rest) pos) tb):PE X (.BoolOp .Or (a::b::rest) pos) (tOrV ta tb):=by
 intro pins s σ H Q I h
 refine BoolOp_or (thn (ha pins s σ H _ I h) fun v s1 hh_=>?_)
 obtain⟨x,H1,I1,r1,q1⟩:=hh_
 obtain⟨c,rfl,q1⟩:=q1
 cases r1
 refine wpAny_truthy_bool ?_
 cases c with
 |false=>exact hb pins s1 σ H1 Q I1 q1
 |true=>exact⟨.bl true,H1,I1,rfl,q1⟩
theorem G7z(ha:PE X a ta):PE X (.UnaryOp .Not a pos) (Z6b ta):=by
 intro pins s σ H Q I h
 refine UnaryOp_ (thn (ha pins s σ H _ I h) fun v s1 hh_=>?_)
 obtain⟨x,H1,I1,r1,q1⟩:=hh_
 obtain⟨c,rfl,q1⟩:=q1
 cases r1
 exact not_of (wpAny_truthy_bool ⟨.bl (!c),H1,I1,rfl,q1⟩)
noncomputable def tIf (t:TT) (ta tb:TE):TE:=fun σ H Q=>t σ H fun c H1=>if c=true then ta σ H1 Q else tb σ H1 Q
theorem A4d{c:Expr}(hc:PT X c tA)(ha:PE X a ta)(hb:PE X b tb):PE X (.IfExp c a b pos) (tIf tA ta tb):=by
 intro pins s σ H Q I h
 refine wpAny_IfExp (thn (hc pins s σ H _ I h) fun d s1 ⟨H1,I1,q1⟩=>?_)
 cases d with
 |true=>exact ha pins s1 σ H1 Q I1 q1
 |false=>exact hb pins s1 σ H1 Q I1 q1
end
noncomputable def SqL (K:PySem.W.Frag) (H:Hp) (a:Addr) (xs:List V):Prop:=
 Rd H a (.lst xs)\/
   ∃(o:Obj) (its:Array Value) (n:Nat),K.lookup a=some o/\o.cls= .type "list"/\o.dict=none/\o.data= .seq its n/\its.size<=sizeLine/\Vals xs its.toList
noncomputable def SqT (K:PySem.W.Frag) (H:Hp) (a:Addr) (xs:List V):Prop:=
 Rd H a (.tup xs)\/
   ∃(o:Obj) (its:Array Value) (n:Nat),K.lookup a=some o/\o.cls= .type "tuple"/\o.data= .seq its n/\its.size<=sizeLine/\Vals xs its.toList
noncomputable def absV:Value ->Option V
 | .none=>some .non
 | .bool b=>some (.bl b)
 | .int i _=>some (.int i)
 | .str x _=>some (.str x)
 | .bytes b _=>some (.byt b)
 | .float b _=>some (.flt b)
 | .ref a=>some (.ref a)
 | .type n=>some (.ty n)
 |_=>none
theorem RelV.abs{x:V}{u:Value}(r:RelV x u):absV u=some x:=by
 cases x with
 |non=>cases r;rfl
 |bl _=>cases r;rfl
 |int _=>obtain⟨t,rfl⟩:=r;rfl
 |str _=>obtain⟨t,rfl⟩:=r;rfl
 |byt _=>obtain⟨t,rfl⟩:=r;rfl
 |flt _=>obtain⟨t,rfl⟩:=r;rfl
 |ref _=>cases r;rfl
 |ty _=>cases r;rfl
theorem RelV.inj{x y:V}{u:Value}(r:RelV x u)(q:RelV y u):x=y:=Option.some.inj (r.abs.symm.trans q.abs)
theorem Vals.inj:∀{xs ys:List V} {us:List Value},Vals xs us ->Vals ys us ->xs=ys
 |_,_,_,.nil,.nil=>rfl
 |_,_,_,.cons r t,.cons r' t'=>by rw[r.inj r',Vals.inj t t']
section
variable{X:Cx}{pins:List (Addr×Obj)}{σ:St}{H:Hp}{s:Shared}{a:Addr}{xs ys:List V}
theorem SqL.of{K:PySem.W.Frag}(h:H a=some (.lst xs)):SqL K H a xs:= .inl (.inl h)
theorem SqT.of{K:PySem.W.Frag}(h:H a=some (.tup xs)):SqT K H a xs:= .inl (.inl h)
theorem Inv.list(I:Inv X pins σ H s)(h:SqL X.K H a xs):∃its:List Value,Vals xs its/\PlainL s.heap a its.toArray/\xs.length<=sizeLine:=by
 rcases h with h|⟨o,its,n,hk,hc,hd,hs,hz,r⟩
 . obtain⟨z,its,n,r,e⟩:=h.ok I.hok
   exact⟨its,r,⟨_,n,e,rfl,rfl,rfl⟩,z⟩
 . refine⟨its.toList,r,⟨o,n,I.kIn a o hk,hc,hd,by simpa using hs⟩,?_⟩
   have e:=r.length
   simp only[Array.length_toList] at e
   omega
theorem Inv.tuple(I:Inv X pins σ H s)(h:SqT X.K H a xs):∃its:List Value,Vals xs its/\IsTup s.heap a its.toArray/\xs.length<=sizeLine:=by
 rcases h with h|⟨o,its,n,hk,hc,hs,hz,r⟩
 . obtain⟨z,its,r,p⟩:=h.ok I.hok
   exact⟨its,r,p,z⟩
 . refine⟨its.toList,r,⟨o,I.kIn a o hk,hc,n,by simpa using hs⟩,?_⟩
   have e:=r.length
   simp only[Array.length_toList] at e
   omega
theorem Inv.list_inj(I:Inv X pins σ H s)(h:SqL X.K H a xs)(h':SqL X.K H a ys):xs=ys:=by
 obtain⟨its,r,⟨o,n,e,_,_,d⟩,_⟩:=I.list h
 obtain⟨its',r',⟨o',n',e',_,_,d'⟩,_⟩:=I.list h'
 rw[e] at e';cases e'
 rw[d] at d'
 injection d' with d1 _
 have:its=its':=by simpa using congrArg Array.toList d1
 subst this
 exact r.inj r'
theorem Inv.tuple_inj(I:Inv X pins σ H s)(h:SqT X.K H a xs)(h':SqT X.K H a ys):xs=ys:=by
 obtain⟨its,r,⟨o,e,_,n,d⟩,_⟩:=I.tuple h
 obtain⟨its',r',⟨o',e',_,n',d'⟩,_⟩:=I.tuple h'
 rw[e] at e';cases e'
 rw[d] at d'
 injection d' with d1 _
 have:its=its':=by simpa using congrArg Array.toList d1
 subst this
 exact r.inj r'
end
noncomputable abbrev Cx.wish (X:Cx) (E:Value ->Shared ->Prop):Cx:={X with xe:=E}
noncomputable abbrev Cx.nox (X:Cx):Cx:=X.wish fun _ _=>False
theorem Cx.Ok.wish{X:Cx}(ok:X.Ok)(E:Value ->Shared ->Prop):(X.wish E).Ok:=
 ⟨ok.mod,ok.kind,ok.glob,ok.blt,ok.above,ok.inj,ok.has,ok.cab,ok.hd,ok.frames,ok.stk,ok.exf,ok.bs,ok.bsz,ok.noex,ok.exfs,ok.funs,ok.frf⟩
theorem Cx.Ok.unwish{X:Cx}{E:Value ->Shared ->Prop}(ok:(X.wish E).Ok):X.Ok:=
 ⟨ok.mod,ok.kind,ok.glob,ok.blt,ok.above,ok.inj,ok.has,ok.cab,ok.hd,ok.frames,ok.stk,ok.exf,ok.bs,ok.bsz,ok.noex,ok.exfs,ok.funs,ok.frf⟩
section
variable{X:Cx}{pins:List (Addr×Obj)}{σ:St}{H:Hp}{s:Shared}{E:Value ->Shared ->Prop}
theorem Inv.wish(I:Inv X pins σ H s)(E:Value ->Shared ->Prop):Inv (X.wish E) pins σ H s:=⟨I.ok.wish E,I.os,I.bare,I.base,I.loc,I.cell,I.free,I.freeC,I.pin,I.hok,I.len⟩
theorem Inv.unwish(I:Inv (X.wish E) pins σ H s):Inv X pins σ H s:=⟨I.ok.unwish,I.os,I.bare,I.base,I.loc,I.cell,I.free,I.freeC,I.pin,I.hok,I.len⟩
theorem SP.unwish{D:Ends}{f:Flow}{s':Shared}(h:SP (X.wish E) pins D f s'):SP X pins D f s':=by
 cases f with
 |next=>obtain⟨σ',H',I,q⟩:=h;exact⟨σ',H',I.unwish,q⟩
 |brk=>obtain⟨σ',H',I,q⟩:=h;exact⟨σ',H',I.unwish,q⟩
 |cont=>obtain⟨σ',H',I,q⟩:=h;exact⟨σ',H',I.unwish,q⟩
 |ret u=>obtain⟨v,σ',H',I,r,q⟩:=h;exact⟨v,σ',H',I.unwish,r,q⟩
theorem PSs.nox{st:List Stmt}{t:TS}(h:PSs X.nox st t):PSs X st t:=fun pins s σ H D I hw=>
 wpAny_mono (h pins s σ H D (I.wish _) hw) (fun _ _ q=>q.unwish) fun _ _ z=>False.elim z
end
section
variable{X:Cx}{st:Stmt}{rest:List Stmt}{t u:TS}{e:Expr}{te:TE}{pos:Pos}
noncomputable def Z5y:TS:=fun D σ H=>D.nx σ H
noncomputable def tSeq (t u:TS):TS:=fun D σ H=>t {D with nx:=u D} σ H
theorem C6:PSs X [] Z5y:=fun _ _ σ H _ I h=>wpAny_execs_nil ⟨σ,H,I,h⟩
theorem A4(h1:PS X st t)(h2:PSs X rest u):PSs X (st::rest) (tSeq t u):=by
 intro pins s σ H D I h
 refine wpAny_execs_cons (thn (h1 pins s σ H {D with nx:=u D} I h) fun f s1 q=>?_)
 cases f with
 | next=>
   obtain⟨σ',H',I',q⟩:=q
   exact h2 pins s1 σ' H' D I' q
 |ret v=>exact q
 |brk=>exact q
 |cont=>exact q
theorem A6(h1:PS X st t):PSs X [st] t:=by
 intro pins s σ H D I h
 refine wpAny_execs_cons (thn (h1 pins s σ H D I h) fun f s1 q=>?_)
 cases f with
 |next=>exact wpAny_execs_nil q
 |ret v=>exact q
 |brk=>exact q
 |cont=>exact q
theorem Inv.quiet{pins:List (Addr×Obj)}{σ:St}{H:Hp}{s:Shared}(I:Inv X pins σ H s):interactive X.env=false:=by simp[interactive,I.ok.kind]
noncomputable def Z4v (te:TE):TS:=fun D σ H=>te σ H fun _ H1=>D.nx σ H1
theorem A2y(he:PE X e te)(hs:swapsWith e none pos.line X.env=pure false:=by rfl):PS X (.Expr e pos) (Z4v te):=by
 intro pins s σ H D I h
 exact wpAny_Expr_any (thn (he pins s σ H _ I h) fun v s1 ⟨x,H1,I1,r1,q1⟩=>⟨σ,H1,I1,q1⟩) I.quiet hs
noncomputable def tRet (te:TE):TS:=fun D σ H=>te σ H D.rt
theorem B3(he:PE X e te):PS X (.Return (some e) pos) (tRet te):=by
 intro pins s σ H D I h
 exact wpAny_Return_some (thn (he pins s σ H _ I h) fun v s1 ⟨x,H1,I1,r1,q1⟩=>⟨x,σ,H1,I1,r1,q1⟩)
noncomputable def tIfS (c:TT) (t u:TS):TS:=fun D σ H=>c σ H fun b H1=>if b=true then t D σ H1 else u D σ H1
theorem G6{c:Expr}{a b:List Stmt}{tc:TT}(hc:PT X c tc)(ha:PSs X a t)(hb:PSs X b u):PS X (.If c a b pos) (tIfS tc t u):=by
 intro pins s σ H D I h
 refine wpAny_If (thn (hc pins s σ H _ I h) fun d s1 ⟨H1,I1,q1⟩=>?_)
 cases d with
 |true=>exact ha pins s1 σ H1 D I1 q1
 |false=>exact hb pins s1 σ H1 D I1 q1
end
noncomputable abbrev TG:=V ->St ->Hp ->(St ->Hp ->Prop) ->Prop
noncomputable abbrev TGs:=List V ->St ->Hp ->(St ->Hp ->Prop) ->Prop
noncomputable def PG (X:Cx) (target:Expr) (t:TG):Prop:=
 ∀ (pins:List (Addr×Obj)) (s:Shared) (σ:St) (H:Hp) (v:V) (u:Value) (Q:St ->Hp ->Prop),Inv X pins σ H s ->RelV v u ->t v σ H Q ->
   wpAny (model X.prog X.w) X.A (assign target X.env u) (fun _ s'=>∃σ' H',Inv X pins σ' H' s'/\Q σ' H') X.xe s
noncomputable def PGs (X:Cx) (ts:List Expr) (t:TGs):Prop:=
 ∀ (pins:List (Addr×Obj)) (s:Shared) (σ:St) (H:Hp) (vs:List V) (us:List Value) (Q:St ->Hp ->Prop),Inv X pins σ H s ->Vals vs us ->t vs σ H Q ->
   wpAny (model X.prog X.w) X.A (assignInOrder ((assignEach ts X.env).map (·.2)) us) (fun _ s'=>∃σ' H',Inv X pins σ' H' s'/\Q σ' H') X.xe s
noncomputable abbrev TIp:=V ->V ->Hp ->VK ->Prop
noncomputable def PIp (X:Cx) (op:Operator) (t:TIp):Prop:=
 ∀ (pins:List (Addr×Obj)) (s:Shared) (σ:St) (H:Hp) (x y:V) (v u:Value) (Q:VK),Inv X pins σ H s ->RelV x v ->RelV y u ->t x y H Q ->
   wpAny (model X.prog X.w) X.A (inplaceOp op v u) (EP X pins σ Q) X.xe s
section
variable{X:Cx}{pos:Pos}
noncomputable def U7u (i:Nat):TG:=fun v σ H Q=>Q (σ.set i (some v)) H
theorem J5{i:Nat}{x:Str}(hN:X.N.Nodup)(hi:X.N[i]?=some x)(hx:Loc X.env.scope x)(hf:X.fn x=true\/X.env.scope.names.lookup x=some .local:=by first|exact .inl rfl|exact .inr rfl|assumption):PG X (.Name x pos) (U7u i):=by
 intro pins s σ H v u Q I r h
 exact wpAny_assign_Name (C0n I hN hi hx r (fun s' I'=>⟨_,H,I',h⟩) hf)
noncomputable def gNil:TGs:=fun vs σ H Q=>vs=[]/\Q σ H
noncomputable def Z6t (t:TG) (u:TGs):TGs:=fun vs σ H Q=>∃v r,vs=v::r/\t v σ H fun σ' H'=>u r σ' H' Q
theorem B4s:PGs X [] gNil:=by
 intro pins s σ H vs us Q I r h
 obtain⟨e,h⟩:=h
 subst e
 cases r
 exact assignInOrder_nil ⟨σ,H,I,h⟩
theorem J9{e:Expr}{es:List Expr}{t:TG}{u:TGs}(h1:PG X e t)(h2:PGs X es u)
   (hs:(assignEach (e::es) X.env).map (·.2)=assign e X.env::(assignEach es X.env).map (·.2):=by rfl):PGs X (e::es) (Z6t t u):=by
 intro pins s σ H vs us Q I r h
 obtain⟨v,vr,e1,h⟩:=h
 subst e1
 cases r with
 | cons r rr=>
   rw[hs]
   refine assignInOrder_cons (thn (h1 pins s σ H _ _ _ I r h) fun _ s1 hh_=>?_)
   obtain⟨σ1,H1,I1,q1⟩:=hh_
   exact h2 pins s1 σ1 H1 _ _ Q I1 rr q1
noncomputable def gTup (K:PySem.W.Frag) (n:Nat) (t:TGs):TG:=fun v σ H Q=>∃a xs,v= .ref a/\SqT K H a xs/\xs.length=n/\t xs σ H Q
theorem C1s{es:List Expr}{k:Nat}{t:TGs}{n:Nat}(hc:X.calm=true)(h:PGs X es t)
   (hn:(assignEach es X.env).length=n:=by rfl) (hst:(assignEach es X.env).findIdx? (·.1)=none:=by rfl):PG X (.Tuple es k pos) (gTup X.K n t):=by
 intro pins s σ H v u Q I r hw
 obtain⟨a,xs,e1,hq,hl,hw⟩:=hw
 subst e1
 cases r
 obtain⟨its,rv,ht,hz⟩:=I.tuple hq
 refine assign_Tuple_tuple (I.ok.hd hc) ht (by simp[hn, <-hl,rv.length]) hst fun h' hx=>?_
 have I1:Inv X pins σ H {s with heap:=h'}:=I.kept (t':=s.toks) fun b o e=>hx b o (Nat.ne_of_lt (Heap.lt_size e)) e
 exact h pins _ σ H xs _ Q I1 (by simpa using rv) hw
noncomputable def Z6n (te:TE) (g:TG):TS:=fun D σ H=>te σ H fun x H1=>g x σ H1 D.nx
theorem C1h{tg e:Expr}{te:TE}{g:TG}(he:PE X e te)(hg:PG X tg g)(hs:swapsWithSole [tg] e pos.line X.env=pure false:=by rfl)(hw:swappedStores [tg] e X.env=pure none:=by rfl)
   (h1:(assignEach [tg] X.env).map (·.2)=[assign tg X.env]:=by rfl):PS X (.Assign [tg] e pos) (Z6n te g):=by
 intro pins s σ H D I h
 refine wpAny_Assign_stores (thn (he pins s σ H _ I h) fun v s1 hh_=>?_) hs hw
 obtain⟨x,H1,I1,r1,q1⟩:=hh_
 rw[h1]
 exact thn (hg pins s1 σ H1 x v _ I1 r1 q1) fun _ s2 q=>q
theorem C5{i:Nat}{x:Str}{e:Expr}{te:TE}{pos':Pos}(hN:X.N.Nodup)(hi:X.N[i]?=some x)(hx:Loc X.env.scope x)(he:PE X e te)(hs:swapsWith e (some (.Name x pos')) pos.line X.env=pure false:=by rfl)(hf:X.fn x=true\/X.env.scope.names.lookup x=some .local:=by first|exact .inl rfl|exact .inr rfl|assumption):
   PS X (.Assign [.Name x pos'] e pos) (Z6n te (U7u i)):=by
 intro pins s σ H D I h
 refine wpAny_Assign_Name (thn (he pins s σ H _ I h) fun v s1 hh_=>?_) hs
 obtain⟨y,H1,I1,r1,q1⟩:=hh_
 exact C0n I1 hN hi hx r1 (fun s2 I2=>⟨_,H1,I2,q1⟩) hf
noncomputable def tAug (i:Nat) (te:TE) (ti:TIp):TS:=fun D σ H=>∃x,σ[i]?=some (some x)/\te σ H fun y H1=>ti x y H1 fun z H2=>D.nx (σ.set i (some z)) H2
theorem D2m{i:Nat}{x:Str}{e:Expr}{te:TE}{op:Operator}{ti:TIp}{pos':Pos}(hN:X.N.Nodup)(hi:X.N[i]?=some x)(hx:Loc X.env.scope x)(he:PE X e te)(ho:PIp X op ti)(hf:X.fn x=true\/X.env.scope.names.lookup x=some .local:=by first|exact .inl rfl|exact .inr rfl|assumption):
   PS X (.AugAssign (.Name x pos') op e pos) (tAug i te ti):=by
 intro pins s σ H D I h
 obtain⟨v,e1,h⟩:=h
 obtain⟨m,hn,hl⟩:=I.loc
 have vis:Vis X.env.scope x:=by rcases hx with k|k;exact .inl k;exact .inr (.inl k)
 obtain⟨u,r,l⟩:=hl i x v hi e1 vis
 refine wpAny_AugAssign_Name ?_
 have go:wpAny (model X.prog X.w) X.A (eval e X.env) (fun w s₂=>wpAny (model X.prog X.w) X.A (inplaceOp op u w) (fun r s₃=>wpAny (model X.prog X.w) X.A (storeName X.env x r) (fun _=>SP X pins D .next) X.xe s₃) X.xe s₂) X.xe s:=by
   refine thn (he pins s σ H _ I h) fun w s1 hh_=>?_
   obtain⟨y,H1,I1,r1,q1⟩:=hh_
   refine thn (ho pins s1 σ H1 v y u w _ I1 r r1 q1) fun z s2 hh_=>?_
   obtain⟨zv,H2,I2,r2,q2⟩:=hh_
   exact C0n I2 hN hi hx r2 (fun s3 I3=>⟨_,H2,I3,q2⟩) hf
 rcases l with⟨hk,hm⟩|⟨hk,c,hc,hcell⟩
 . exact wpAny_loadName_local I.ok.kind hk hn hm go
 . rcases hk with hk|hk
   . exact wpAny_loadName_cell I.ok.kind hk hc hcell go
   . rcases hx with k|k
     . have:X.env.scope.names.lookup x=some .free:=hk
       rw[k] at this;cases this
     . have:X.env.scope.names.lookup x=some .free:=hk
       rw[k] at this;cases this
noncomputable def ipI (f:Int ->Int ->Int):TIp:=fun x y H Q=>∃i j,x= .int i/\y= .int j/\Q (.int (f i j)) H
theorem G7a:PIp X .Add (ipI fun i j=>i+j):=by
 intro pins s σ H x y v u Q I r1 r2 h
 obtain⟨i,j,e1,e2,q⟩:=h
 subst e1;subst e2
 obtain⟨t,rfl⟩:=r1
 obtain⟨t',rfl⟩:=r2
 exact iadd_int ⟨.int _,H,I.tok _,⟨_,rfl⟩,q⟩
theorem Z1e:PIp X .Sub (ipI fun i j=>i-j):=by
 intro pins s σ H x y v u Q I r1 r2 h
 obtain⟨i,j,e1,e2,q⟩:=h
 subst e1;subst e2
 obtain⟨t,rfl⟩:=r1
 obtain⟨t',rfl⟩:=r2
 exact isub_int ⟨.int _,H,I.tok _,⟨_,rfl⟩,q⟩
end
section
variable{X:Cx}{pos:Pos}
noncomputable def U9s (c:TT) (tb:TS):TS:=fun D σ H=>∃W:Nat ->St ->Hp ->Prop,(∃m,W m σ H)/\∀m σ H,W m σ H ->
 c σ H fun b H1=>if b=true then∃N:St ->Hp ->Prop,(∀σ' H',N σ' H' ->∃m',m'<m/\W m' σ' H')/\tb {D with nx:=N,ct:=N,bk:=D.nx} σ H1 else D.nx σ H1
theorem A2d{c:Expr}{body:List Stmt}{tc:TT}{tb:TS}(hp:PassesOwn (model X.prog X.w) X.A X.env X.xe)(hc:PT X c tc)(hb:PSs X body tb):PS X (.While c body [] pos) (U9s tc tb):=by
 intro pins s σ H D I h
 obtain⟨W,⟨m0,w0⟩,turn⟩:=h
 refine wpAny_While (codeAny_whileLoop (fun n s'=>∃σ' H',Inv X pins σ' H' s'/\W n σ' H') ?_ m0 ⟨σ,H,I,w0⟩)
 rintro n s1 ⟨σ1,H1,I1,w1⟩
 refine wpAny_passesOwn hp (thn (hc pins s1 σ1 H1 _ I1 (turn n σ1 H1 w1)) fun b s2 ⟨H2,I2,q2⟩=>?_)
 cases b with
 | true=>
   obtain⟨N,hN,q2⟩:=q2
   rw[if_pos rfl]
   refine wpAny_passesOwn hp (thn (hb pins s2 σ1 H2 _ I2 q2) fun f s3 q3=>?_)
   cases f with
   | next=>
     obtain⟨σ3,H3,I3,n3⟩:=q3
     obtain⟨m',hm,w3⟩:=hN σ3 H3 n3
     exact⟨m',hm,σ3,H3,I3,w3⟩
   | cont=>
     obtain⟨σ3,H3,I3,n3⟩:=q3
     obtain⟨m',hm,w3⟩:=hN σ3 H3 n3
     exact⟨m',hm,σ3,H3,I3,w3⟩
   |brk=>exact q3
   |ret v=>exact q3
 | false=>
   rw[if_neg Bool.false_ne_true]
   exact wpAny_execs_nil ⟨σ1,H2,I2,q2⟩
end
structure It where
 go:Nat ->Hp ->Prop
 yld:Nat ->Hp ->V ->Hp ->Prop
 stop:Nat ->Hp ->Prop
noncomputable def A4u (X:Cx) (pins:List (Addr×Obj)) (H:Hp) (b:Addr):Prop:=
 H b=none/\b≠X.env.locals/\b ∉ X.fs/\(b∈X.ex\/X.s₀.heap.objs.size<=b)/\(∀x c,X.env.cells.lookup x=some c ->c≠b)/\∀p∈X.pn++pins,p.1≠b
theorem Inv.fpOk{X:Cx}{pins:List (Addr×Obj)}{σ:St}{H H':Hp}{s:Shared}{b:Addr}(I:Inv X pins σ H s)(hb:s.heap.objs.size<=b)(hn:H' b=none):A4u X pins H' b:=by
 refine⟨hn,Nat.ne_of_gt (Nat.lt_of_lt_of_le I.lt hb),I.nofs hb,.inr (Nat.le_trans I.sz hb),fun x c e z=>?_,fun p hp z=>?_⟩
 . obtain⟨v,q⟩:=I.cell x c e
   exact absurd (Nat.lt_of_lt_of_le q.lt (by rw[z];exact hb)) (Nat.lt_irrefl _)
 . exact absurd (Nat.lt_of_lt_of_le (Heap.lt_size (I.pin p hp).1) (by rw[z];exact hb)) (Nat.lt_irrefl _)
structure Turn(P:Program)(w:World)(K:PySem.W.Frag)(tg:Expr)(J:It)(fp:List Addr)(it:Addr)(tn:Nat ->Heap ->Prop):Prop where
 mem:it∈fp
 obj:∀i h,tn i h ->∀b∈fp,∃o,h.get? b=some o/\∀v,o.data≠ .cell v
 keep:∀i h h',tn i h ->(∀b∈fp,∀o,h.get? b=some o ->h'.get? b=some o) ->tn i h'
 item:∀(X:Cx),X.prog=P ->X.w=w ->X.K=K ->X.calm=true ->∀(i:Nat) (pins:List (Addr×Obj)) (s:Shared) (σ:St) (H:Hp) (E:Value ->Shared ->Prop),Inv X pins σ H s ->(∀b∈fp,A4u X pins H b) ->tn i s.heap ->J.go i H ->
   wpAny (model P w) X.A (pyNext (.ref it)) (fun r s1=>∃u,r=some u/\
     wpAny (model P w) X.A (letOwnedTupleGo tg (.ref it) u) (fun _ s2=>∃x H',Inv X pins σ H' s2/\RelV x u/\J.yld i H x H'/\tn (i+1) s2.heap/\∀b∈fp,H' b=none) E s1) E s
 done:∀(X:Cx),X.prog=P ->X.w=w ->X.K=K ->X.calm=true ->∀(i:Nat) (pins:List (Addr×Obj)) (s:Shared) (σ:St) (H:Hp) (E:Value ->Shared ->Prop),Inv X pins σ H s ->(∀b∈fp,A4u X pins H b) ->tn i s.heap ->J.stop i H ->
   wpAny (model P w) X.A (pyNext (.ref it)) (fun r s1=>r=none/\Inv X pins σ H s1) E s
 self:∀(A:Around) (i:Nat) (s:Shared) (Q:Value ->Shared ->Prop) (E:Value ->Shared ->Prop),tn i s.heap ->Q (.ref it) s ->wpAny (model P w) A (pyIter (.ref it)) Q E s
noncomputable abbrev TI:=St ->Hp ->(It ->Hp ->Prop) ->Prop
noncomputable def PIE (X:Cx) (pins:List (Addr×Obj)) (σ:St) (tg:Expr) (R:It ->Hp ->Prop) (itv:Value) (s2:Shared):Prop:=
 ∃(it:Addr) (fp:List Addr) (tn:Nat ->Heap ->Prop) (J:It) (H':Hp),itv= .ref it/\Inv X pins σ H' s2/\Turn X.prog X.w X.K tg J fp it tn/\tn 0 s2.heap/\(∀b∈fp,A4u X pins H' b)/\R J H'
noncomputable def PI (X:Cx) (tg iter:Expr) (wi:TI):Prop:=
 ∀ (pins:List (Addr×Obj)) (s:Shared) (σ:St) (H:Hp) (R:It ->Hp ->Prop),Inv X pins σ H s ->wi σ H R ->
   wpAny (model X.prog X.w) X.A (eval iter X.env) (fun v s1=>wpAny (model X.prog X.w) X.A (pyIter v) (PIE X pins σ tg R) X.xe s1) X.xe s
theorem G2b{M:Model}{A:Around}{E:Value ->Shared ->Prop}{s:Shared}{tg:Expr}{it:Addr}{u:Value}{o:Obj}{n:String}{vs:Array Value}{Q:Unit ->Shared ->Prop}(ho:s.heap.get? it=some o)(hc:o.cls= .type n)(hd:o.data= .fields vs)
   (hn: ["enumerate","zip","dict_itemiterator","dict_reverseitemiterator","odict_iterator","itertools.zip_longest","itertools.pairwise"].contains n=false) (hQ:Q () s):wpAny M A (letOwnedTupleGo tg (.ref it) u) Q E s:=by
 unfold letOwnedTupleGo
 cases tg <;>first
   |exact wpAny_pure hQ
   |(cases u<;>first
       |exact wpAny_pure hQ
       | (refine wpAny_bind (wpAny_load ho ?_)
          rw[hc,hd]
          show wpAny M A (if(["enumerate","zip","dict_itemiterator","dict_reverseitemiterator","odict_iterator","itertools.zip_longest","itertools.pairwise"].contains n&&vs[0]?==some (rawInt _))=true then _ else _) Q E s
          rw[if_neg (by intro h;rw[hn,Bool.false_and] at h;cases h)]
          exact wpAny_pure hQ))
noncomputable def Itl (K:PySem.W.Frag) (a:Addr):It:=
 ⟨fun i H=>∃xs x,SqL K H a xs/\xs[i]?=some x,fun i H x H'=>H'=H/\∀xs,SqL K H a xs ->xs[i]?=some x,fun i H=>∃xs,SqL K H a xs/\xs.length<=i⟩
noncomputable def Itt (K:PySem.W.Frag) (a:Addr):It:=
 ⟨fun i H=>∃xs x,SqT K H a xs/\xs[i]?=some x,fun i H x H'=>H'=H/\∀xs,SqT K H a xs ->xs[i]?=some x,fun i H=>∃xs,SqT K H a xs/\xs.length<=i⟩
noncomputable def Itr (lo:Int) (n:Nat):It:=⟨fun i _=>i<n,fun i H x H'=>H'=H/\x= .int (lo+i),fun i _=>n<=i⟩
theorem U0c{P:Program}{w:World}{K:PySem.W.Frag}{tg:Expr}(a it:Addr):Turn P w K tg (Itl K a) [it] it (fun i h=>h.IsListIter it a i) where
 mem:=by simp
 obj:=fun i h st b hb=>by
   have e:b=it:=by simpa using hb
   subst e
   obtain⟨o,e,c,d⟩:=st
   exact⟨o,e,fun v z=>by rw[d] at z;cases z⟩
 keep:=fun i h h' st k=>st.at fun o e=>k it (by simp) o e
 item:=by
   intro X hP hw hK hc i pins s σ H E I hf st hg
   subst hP hw hK
   obtain⟨xs,x,hq,hx⟩:=hg
   obtain⟨its,rv,p,hz⟩:=I.list hq
   obtain⟨u,hu,ru⟩:=rv.get hx
   obtain⟨f0,f1,f2,f3,f4,f5⟩:=hf it (by simp)
   refine wpAny_pyNext_list_item st p.isList (x:=u) (by simpa using hu) fun h' st' sb=>?_
   have I1:Inv X pins σ H {s with heap:=h'}:=I.turned (t':=s.toks) (fun b o hb e=>(sb.2 b hb).trans e) f0 f1 f3 f4 f5
   obtain⟨o,e,c,d⟩:=id st'
   exact⟨u,rfl,G2b (s:={s with heap:=h'}) e c d (by decide) ⟨x,H,I1,ru,⟨rfl,fun ys hy=>by rw[I.list_inj hy hq];exact hx⟩,st',fun b hb=>(hf b hb).1⟩⟩
 done:=by
   intro X hP hw hK hc i pins s σ H E I hf st hg
   subst hP hw hK
   obtain⟨xs,hq,hx⟩:=hg
   obtain⟨its,rv,p,hz⟩:=I.list hq
   obtain⟨f0,f1,f2,f3,f4,f5⟩:=hf it (by simp)
   have hl:=rv.length
   exact wpAny_pyNext_list_end (I.ok.hd hc) st p.isList (by simp;omega) fun h' eb=>⟨rfl,I.turned (t':=s.toks) (fun b o hb e=>eb b o hb e) f0 f1 f3 f4 f5⟩
 self:=fun _ _ _ _ _ st h=>wpAny_pyIter_listiter st h
theorem G8q{P:Program}{w:World}{K:PySem.W.Frag}{tg:Expr}(it:Addr)(lo:Int)(n:Nat):Turn P w K tg (Itr lo n) [it] it (fun i h=>IsRangeIter h it (lo+(i:Nat)*1) ((n:Int)- (i:Nat)) 1) where
 mem:=by simp
 obj :=fun i h st b hb=>by
   have e:b=it:=by simpa using hb
   subst e
   exact⟨_,st,fun v z=>by
     have z':Data.fields _=Data.cell v:=z
     cases z'⟩
 keep:=fun i h h' st k=>k it (by simp) _ st
 item:=by
   intro X hP hw hK hc i pins s σ H E I hf st hg
   subst hP hw hK
   obtain⟨f0,f1,f2,f3,f4,f5⟩:=hf it (by simp)
   have W:=Walks.range (prog:=X.prog) (w:=X.w) (I.ok.hd hc) it lo 1 n
   refine W.item i s _ _ hg st fun v h' tk hv st' kk=>?_
   obtain⟨t,rfl⟩:=hv
   have I1:Inv X pins σ H {s with heap:=h',toks:=tk}:=I.turned (fun b o hb e=>kk b o (by simpa using hb) e) f0 f1 f3 f4 f5
   refine⟨_,rfl,G2b (s:={s with heap:=h',toks:=tk}) (n:="range_iterator") st' rfl rfl (by decide) ⟨.int (lo+i),H,I1,⟨t,?_⟩,⟨rfl,rfl⟩,st',fun b hb=>(hf b hb).1⟩⟩
   rw[Int.mul_one]
 done:=by
   intro X hP hw hK hc i pins s σ H E I hf st hg
   subst hP hw hK
   obtain⟨f0,f1,f2,f3,f4,f5⟩:=hf it (by simp)
   exact wpAny_pyNext_range_end (I.ok.hd hc) st (by have:n<=i:=hg;omega) fun h' eb=>⟨rfl,I.turned (t':=s.toks) (fun b o hb e=>eb b o hb e) f0 f1 f3 f4 f5⟩
 self:=fun _ _ _ _ _ st h=>wpAny_pyIter_rangeiter st h
section
variable{X:Cx}{tg:Expr}
noncomputable def Y8x (K:PySem.W.Frag) (tl:TE):TI:=fun σ H R=>tl σ H fun x H1=>∃a,x= .ref a/\(∃xs,SqL K H1 a xs)/\R (Itl K a) H1
noncomputable def Z7a (K:PySem.W.Frag) (tl:TE):TI:=fun σ H R=>tl σ H fun x H1=>∃a,x= .ref a/\(∃xs,SqT K H1 a xs)/\R (Itt K a) H1
theorem J7p{l:Expr}{tl:TE}(hl:PE X l tl):PI X tg l (Y8x X.K tl):=by
 intro pins s σ H R I h
 refine thn (hl pins s σ H _ I h) fun v s1 hh_=>?_
 obtain⟨x,H1,I1,r1,q1⟩:=hh_
 obtain⟨a,e,⟨xs,hq⟩,q⟩:=q1
 subst e
 cases r1
 obtain⟨its,rv,p,hz⟩:=I1.list hq
 refine wpAny_pyIter_list p.isList ?_
 refine⟨s1.heap.objs.size,[s1.heap.objs.size],_,_,H1,rfl,I1.kept (t':=s1.toks) fun b o e=>Heap.get?_push_of_some _ e,U0c a _,⟨_,Heap.get?_push_size _ rfl,rfl,rfl⟩,fun b hb=>?_,q⟩
 have e:b=s1.heap.objs.size:=by simpa using hb
 subst e
 exact I1.fpOk (Nat.le_refl _) (I1.hok.fresh (Nat.le_refl _))
theorem U7e{pins:List (Addr×Obj)}{σ:St}{H:Hp}{s:Shared}{R:It ->Hp ->Prop}{E:Value ->Shared ->Prop}{lo hi:Int}{t u v:Tok}{tk:Nat}(I:Inv X pins σ H s)(h1: -(2^62)<=lo)(h2:lo<2^62)(h3: -(2^62)<=hi)(h4:hi<2^62)
   (q:R (Itr lo (hi-lo).toNat) H):wpAny (model X.prog X.w) X.A (pyIter (.ref s.heap.objs.size)) (PIE X pins σ tg R) E {s with heap:=s.heap.push {cls:= .type "range",data:= .fields #[.int lo t,.int hi u,.int 1 v]},toks:=tk}:=by
 refine wpAny_pyIter_range (IsRange.new ..) (small_one h1 h2 h3 h4) ?_
 have I1:Inv X pins σ H {s with heap:=s.heap.push {cls:= .type "range",data:= .fields #[.int lo t,.int hi u,.int 1 v]},toks:=tk}:=I.kept fun b o e=>Heap.get?_push_of_some _ e
 refine⟨(s.heap.push {cls:= .type "range",data:= .fields #[.int lo t,.int hi u,.int 1 v]}).objs.size,[(s.heap.push {cls:= .type "range",data:= .fields #[.int lo t,.int hi u,.int 1 v]}).objs.size],_,_,H,rfl,
   I1.kept (t':=tk) fun b o e=>Heap.get?_push_of_some _ e,G8q _ lo (hi-lo).toNat,?_,fun b hb=>?_,q⟩
 . have e1:lo+((0:Nat):Int)*1=lo:=by simp
   have e2:(((hi-lo).toNat:Nat):Int)- ((0:Nat):Int)=Builtin.Range.rangeSize lo hi 1:=by rw[rangeSize_one];split<;>omega
   show IsRangeIter _ _ (lo+((0:Nat):Int)*1) ((((hi-lo).toNat:Nat):Int)- ((0:Nat):Int)) 1
   rw[e1,e2]
   exact Heap.get?_push_size _ rfl
 . have e:b=(s.heap.push {cls:= .type "range",data:= .fields #[.int lo t,.int hi u,.int 1 v]}).objs.size:=by simpa using hb
   subst e
   exact I1.fpOk (Nat.le_refl _) (I1.hok.fresh (Nat.le_refl _))
noncomputable def Z7g (ta:TA):TI:=fun σ H R=>ta σ H fun vs H1=>∃j:Int,vs=[.int j]/\ -(2^62)<=j/\j<2^62/\R (Itr 0 j.toNat) H1
theorem J9b{a:Expr}{ta:TA}{p pos:Pos}(hg:Gl X "range")(hm:X.mg "range"=none)(ha:PA X [a] ta)(hs:starEach [a] X.env=[(false,eval a X.env)]:=by rfl):PI X tg (.Call (.Name "range" p) [a] [] pos) (Z7g ta):=by
 intro pins s σ H R I h
 refine Call_ (C1w I hg hm boot_range (PyProof.Rows.callWith_type1 (thn (ha pos pins s σ H _ I h) fun us s1 hh_=>?_) hs rfl))
 obtain⟨vs,H1,I1,r1,q1⟩:=hh_
 obtain⟨j,e,q1,q2,q⟩:=q1
 subst e
 cases r1 with
 | cons r rr=>
   cases rr
   obtain⟨t,rfl⟩:=r
   exact call_range_1 (U7e I1 (by omega) (by omega) q1 q2 (by simpa using q))
noncomputable def tFor (wi:TI) (g:TG) (tb:TS):TS:=fun D σ H=>wi σ H fun J H1=>∃W:Nat ->Nat ->St ->Hp ->Prop,(∃m,W 0 m σ H1)/\∀i m σ H,W i m σ H ->
 (J.stop i H/\D.nx σ H)\/(J.go i H/\∃N:St ->Hp ->Prop,(∀σ' H',N σ' H' ->∃m',m'<m/\W (i+1) m' σ' H')/\∀x H',J.yld i H x H' ->g x σ H' fun σ2 H2=>tb {D with nx:=N,ct:=N,bk:=D.nx} σ2 H2)
noncomputable def D2w (fp:List Addr) (h:Heap):List (Addr×Obj):=fp.filterMap fun b=>(h.get? b).map fun o=>(b,o)
theorem C0r{fp:List Addr}{h:Heap}{b:Addr}{o:Obj}(hb:b∈fp)(e:h.get? b=some o):(b,o)∈D2w fp h:=List.mem_filterMap.mpr ⟨b,hb,by rw[e];rfl⟩
theorem U0x{fp:List Addr}{h:Heap}{p:Addr×Obj}(hp:p∈D2w fp h):p.1∈fp/\h.get? p.1=some p.2:=by
 obtain⟨b,hb,e⟩:=List.mem_filterMap.mp hp
 cases q:h.get? b with
 |none=>rw[q] at e;cases e
 | some o=>
   rw[q] at e
   have e':(b,o)=p:=Option.some.inj e
   subst e'
   exact⟨hb,q⟩
theorem Inv.pinned{pins:List (Addr×Obj)}{σ:St}{H:Hp}{s:Shared}{fp:List Addr}(I:Inv X pins σ H s)(hf:∀b∈fp,A4u X pins H b)(ho:∀b∈fp,∃o,s.heap.get? b=some o/\∀v,o.data≠ .cell v):Inv X (pins++D2w fp s.heap) σ H s:=
 I.pins_of fun p hp=>(List.mem_append.mp hp).elim (fun z=>I.pin p (List.mem_append_right _ z)) fun z=>by
   obtain⟨hb,e⟩:=U0x z
   obtain⟨f0,f1,f2,_⟩:=hf p.1 hb
   obtain⟨o,e',d⟩:=ho p.1 hb
   rw[e] at e';cases e'
   exact⟨e,f0,f1,f2,d⟩
theorem Inv.unpinned{pins pl:List (Addr×Obj)}{σ:St}{H:Hp}{s:Shared}(I:Inv X (pins++pl) σ H s):Inv X pins σ H s:=I.pins_of fun p hp=>I.pin p (List.mem_append_right _ (List.mem_append_left _ hp))
theorem D2s{iter:Expr}{body:List Stmt}{wi:TI}{g:TG}{tb:TS}{pos:Pos}(hp:PassesOwn (model X.prog X.w) X.A X.env X.xe)(hc:X.calm=true)(hi:PI X tg iter wi)(hg:PG X tg g)(hb:PSs X body tb)
   (hs:∀x,foldedSetIterable iter X.env x=pure x:=by intro _;rfl):PS X (.For tg iter body [] pos) (tFor wi g tb):=by
 intro pins s σ H D I h
 refine wpAny_For (thn (hi pins s σ H _ I h) fun v s1 h1=>thn h1 fun itv s2 h2=>?_) hs
 obtain⟨it,fp,tn,J,H2,e,I2,T,st2,f2,W,⟨m0,w0⟩,turn⟩:=h2
 subst e
 have stat:∀{H':Hp},(∀b∈fp,H' b=none) ->∀b∈fp,A4u X pins H' b:=fun hn b hb=>⟨hn b hb,(f2 b hb).2⟩
 refine codeAny_forLoop_any (fun n s'=>∃i σ' H',Inv X pins σ' H' s'/\tn i s'.heap/\(∀b∈fp,H' b=none)/\W i n σ' H') ?_ m0 ⟨0,σ,H2,I2,st2,fun b hb=>(f2 b hb).1,w0⟩
 rintro n s3 ⟨i,σ3,H3,I3,st3,fr3,w3⟩
 rcases turn i n σ3 H3 w3 with⟨stop,qn⟩|⟨go,N,hN,step⟩
 . refine wpAny_passesOwn hp (thn (T.done X rfl rfl rfl hc i pins s3 σ3 H3 X.xe I3 (stat fr3) st3 stop) fun r s4 ⟨hr,I4⟩=>?_)
   subst hr
   exact wpAny_execs_nil ⟨σ3,H3,I4,qn⟩
 . refine wpAny_passesOwn hp (thn (T.item X rfl rfl rfl hc i pins s3 σ3 H3 X.xe I3 (stat fr3) st3 go) fun r s4 ⟨u,hr,h4⟩=>?_)
   subst hr
   refine wpAny_passesOwn hp (thn h4 fun _ s5 hh_=>?_)
   obtain⟨x,H5,I5,r5,y5,st5,fr5⟩:=hh_
   have I5':=I5.pinned (stat fr5) (T.obj _ _ st5)
   refine wpAny_passesOwn hp (thn (hg _ s5 σ3 H5 x u _ I5' r5 (step x H5 y5)) fun _ s6 hh_=>?_)
   obtain⟨σ6,H6,I6,q6⟩:=hh_
   refine wpAny_passesOwn hp (thn (hb _ s6 σ6 H6 _ I6 q6) fun f s7 q7=>?_)
   have again:∀{σ7:St} {H7:Hp},Inv X (pins++D2w fp s5.heap) σ7 H7 s7 ->N σ7 H7 ->∃m,m<n/\∃i σ' H',Inv X pins σ' H' s7/\tn i s7.heap/\(∀b∈fp,H' b=none)/\W i m σ' H':=fun{σ7 H7} I7 n7=>by
     obtain⟨m',hm,w7⟩:=hN σ7 H7 n7
     refine⟨m',hm,i+1,σ7,H7,I7.unpinned,T.keep _ _ _ st5 fun b hb o e=>(I7.pin (b,o) (List.mem_append_right _ (List.mem_append_right _ (C0r hb e)))).1,fun b hb=>?_,w7⟩
     obtain⟨o,e,d⟩:=T.obj _ _ st5 b hb
     exact(I7.pin (b,o) (List.mem_append_right _ (List.mem_append_right _ (C0r hb e)))).2.1
   cases f with
   |next=>obtain⟨σ7,H7,I7,n7⟩:=q7;exact again I7 n7
   |cont=>obtain⟨σ7,H7,I7,n7⟩:=q7;exact again I7 n7
   |brk=>obtain⟨σ7,H7,I7,q7⟩:=q7;exact⟨σ7,H7,I7.unpinned,q7⟩
   |ret v=>obtain⟨x7,σ7,H7,I7,r7,q7⟩:=q7;exact⟨x7,σ7,H7,I7.unpinned,r7,q7⟩
end
theorem C0m{K:PySem.W.Frag}{a:Addr}{xs:List V}{g:TG}{tb:TS}{D:Ends}{σ:St}{H:Hp}(Pv:Nat ->St ->Hp ->Prop)(h0:Pv 0 σ H)(hl:∀i σ H,i<=xs.length ->Pv i σ H ->SqL K H a xs)
   (hs:∀i x σ H,xs[i]?=some x ->Pv i σ H ->g x σ H fun σ2 H2=>tb {D with nx:=Pv (i+1),ct:=Pv (i+1),bk:=D.nx} σ2 H2) (hd:∀σ H,Pv xs.length σ H ->D.nx σ H):
   ∃ W:Nat ->Nat ->St ->Hp ->Prop,(∃m,W 0 m σ H)/\∀i m σ H,W i m σ H ->
     ((Itl K a).stop i H/\D.nx σ H)\/((Itl K a).go i H/\∃N:St ->Hp ->Prop,(∀σ' H',N σ' H' ->∃m',m'<m/\W (i+1) m' σ' H')/\∀x H',(Itl K a).yld i H x H' ->g x σ H' fun σ2 H2=>tb {D with nx:=N,ct:=N,bk:=D.nx} σ2 H2):=by
 refine⟨fun i m σ H=>m=xs.length-i/\i<=xs.length/\Pv i σ H,⟨xs.length,by simp,Nat.zero_le _,h0⟩,?_⟩
 rintro i m σ H ⟨rfl,hi,p⟩
 have q:=hl i σ H hi p
 by_cases hlt:i<xs.length
 . refine .inr ⟨⟨xs,xs[i],q,by simp[hlt]⟩,Pv (i+1),fun σ' H' p'=>⟨xs.length-(i+1),by omega,rfl,hlt,p'⟩,fun x H' y=>?_⟩
   obtain⟨e,y⟩:=y
   subst e
   exact hs i x σ _ (y xs q) p
 . have e:i=xs.length:=by omega
   subst e
   exact .inl ⟨⟨xs,q,Nat.le_refl _⟩,hd σ H p⟩
theorem J8v{lo:Int}{n:Nat}{g:TG}{tb:TS}{D:Ends}{σ:St}{H:Hp}(Pv:Nat ->St ->Hp ->Prop)(h0:Pv 0 σ H)
   (hs:∀i σ H,i<n ->Pv i σ H ->g (.int (lo+i)) σ H fun σ2 H2=>tb {D with nx:=Pv (i+1),ct:=Pv (i+1),bk:=D.nx} σ2 H2) (hd:∀σ H,Pv n σ H ->D.nx σ H):
   ∃ W:Nat ->Nat ->St ->Hp ->Prop,(∃m,W 0 m σ H)/\∀i m σ H,W i m σ H ->
     ((Itr lo n).stop i H/\D.nx σ H)\/((Itr lo n).go i H/\∃N:St ->Hp ->Prop,(∀σ' H',N σ' H' ->∃m',m'<m/\W (i+1) m' σ' H')/\∀x H',(Itr lo n).yld i H x H' ->g x σ H' fun σ2 H2=>tb {D with nx:=N,ct:=N,bk:=D.nx} σ2 H2):=by
 refine⟨fun i m σ H=>m=n-i/\i<=n/\Pv i σ H,⟨n,by simp,Nat.zero_le _,h0⟩,?_⟩
 rintro i m σ H ⟨rfl,hi,p⟩
 by_cases hlt:i<n
 . refine .inr ⟨hlt,Pv (i+1),fun σ' H' p'=>⟨n-(i+1),by omega,rfl,hlt,p'⟩,fun x H' y=>?_⟩
   obtain⟨e,y⟩:=y
   subst e y
   exact hs i σ _ hlt p
 . have e:i=n:=by omega
   subst e
   exact .inl ⟨Nat.le_refl _,hd σ H p⟩
theorem A2q{c:TT}{tb:TS}{D:Ends}{σ:St}{H:Hp}(Pv:St ->Hp ->Prop)(μ:St ->Hp ->Nat)(h0:Pv σ H)
   (hs:∀σ H,Pv σ H ->c σ H fun b H1=>if b=true then tb {D with nx:=fun σ' H'=>Pv σ' H'/\μ σ' H'<μ σ H,ct:=fun σ' H'=>Pv σ' H'/\μ σ' H'<μ σ H,bk:=D.nx} σ H1 else D.nx σ H1)
   (mono:∀σ H Q Q',(∀b H1,Q b H1 ->Q' b H1) ->c σ H Q ->c σ H Q'):U9s c tb D σ H:=by
 refine⟨fun m σ H=>m=μ σ H/\Pv σ H,⟨_,rfl,h0⟩,?_⟩
 rintro m σ H ⟨rfl,p⟩
 refine mono σ H _ _ (fun b H1 q=>?_) (hs σ H p)
 cases b with
 |true=>exact⟨_,fun σ' H' ⟨p',l⟩=>⟨_,l,rfl,p'⟩,q⟩
 |false=>exact q
noncomputable abbrev R2:=V ->V ->Hp ->VK ->Prop
noncomputable def OpR (X:Cx) (f:Value ->Value ->Sem Value) (r:R2):Prop:=
 ∀ (pins:List (Addr×Obj)) (s:Shared) (σ:St) (H:Hp) (x y:V) (v u:Value) (Q:VK),Inv X pins σ H s ->RelV x v ->RelV y u ->r x y H Q ->
   wpAny (model X.prog X.w) X.A (f v u) (EP X pins σ Q) X.xe s
noncomputable def UnR (X:Cx) (f:Value ->Sem Value) (r:V ->Hp ->VK ->Prop):Prop:=
 ∀ (pins:List (Addr×Obj)) (s:Shared) (σ:St) (H:Hp) (x:V) (v:Value) (Q:VK),Inv X pins σ H s ->RelV x v ->r x H Q ->
   wpAny (model X.prog X.w) X.A (f v) (EP X pins σ Q) X.xe s
noncomputable def A7z (X:Cx) (f:Value) (r:List V ->Hp ->VK ->Prop):Prop:=
 ∀ (pins:List (Addr×Obj)) (s:Shared) (σ:St) (H:Hp) (xs:List V) (us:List Value) (Q:VK),Inv X pins σ H s ->Vals xs us ->r xs H Q ->
   wpAny (model X.prog X.w) X.A (call f us) (EP X pins σ Q) X.xe s
noncomputable def tOp (r:R2) (ta tb:TE):TE:=fun σ H Q=>ta σ H fun x H1=>tb σ H1 fun y H2=>r x y H2 Q
noncomputable def tUn (r:V ->Hp ->VK ->Prop) (ta:TE):TE:=fun σ H Q=>ta σ H fun x H1=>r x H1 Q
noncomputable def rI (C:Int ->Int ->Prop) (g:Int ->Int ->V):R2:=fun x y H Q=>∃i j,x= .int i/\y= .int j/\C i j/\Q (g i j) H
noncomputable def rI0 (g:Int ->Int ->V):R2:=fun x y H Q=>∃i j,x= .int i/\y= .int j/\Q (g i j) H
noncomputable def rU (g:Int ->V):V ->Hp ->VK ->Prop:=fun x H Q=>∃i,x= .int i/\Q (g i) H
section
variable{X:Cx}{a b c:Expr}{ta tb tc:TE}{pos:Pos}
theorem Z1d(ha:PE X a ta)(hb:PE X b tb){pins:List (Addr×Obj)}{s:Shared}{σ:St}{H:Hp}{R:V ->V ->Hp ->Prop}(I:Inv X pins σ H s)
   (h:ta σ H fun x H1=>tb σ H1 fun y H2=>R x y H2) {Q:Value ->Shared ->Prop} {f:Value ->Value ->Sem Value}
   (hf:∀v u s2 x y H2,Inv X pins σ H2 s2 ->RelV x v ->RelV y u ->R x y H2 ->wpAny (model X.prog X.w) X.A (f v u) Q X.xe s2):
   wpAny (model X.prog X.w) X.A (eval a X.env) (fun v s₁=>wpAny (model X.prog X.w) X.A (eval b X.env) (fun u s₂=>wpAny (model X.prog X.w) X.A (f v u) Q X.xe s₂) X.xe s₁) X.xe s:=by
 refine thn (ha pins s σ H _ I h) fun v s1 hh_=>?_
 obtain⟨x,H1,I1,r1,q1⟩:=hh_
 refine thn (hb pins s1 σ H1 _ I1 q1) fun u s2 hh_=>?_
 obtain⟨y,H2,I2,r2,q2⟩:=hh_
 exact hf v u s2 x y H2 I2 r1 r2 q2
theorem A7{op:Operator}{r:R2}(ho:OpR X (binaryOp op) r)(ha:PE X a ta)(hb:PE X b tb):PE X (.BinOp a op b pos) (tOp r ta tb):=by
 intro pins s σ H Q I h
 exact wpAny_BinOp (Z1d ha hb I h fun v u s2 x y H2 I2 rx ry q=>ho pins s2 σ H2 x y v u Q I2 rx ry q)
theorem D0u{op:UnaryOp}{r:V ->Hp ->VK ->Prop}(ho:UnR X (unaryOp op) r)(ha:PE X a ta):PE X (.UnaryOp op a pos) (tUn r ta):=by
 intro pins s σ H Q I h
 exact UnaryOp_ (thn (ha pins s σ H _ I h) fun v s1 ⟨x,H1,I1,r1,q1⟩=>ho pins s1 σ H1 x v Q I1 r1 q1)
theorem opI{f:Value ->Value ->Sem Value}{C:Int ->Int ->Prop}{g:Int ->Int ->Int}
   (rule:∀(i j:Int) (t u:Tok) (s:Shared) (Q:Value ->Shared ->Prop) (E:Value ->Shared ->Prop),C i j ->Q (.int (g i j) s.toks) {s with toks:=s.toks+1} ->wpAny (model X.prog X.w) X.A (f (.int i t) (.int j u)) Q E s):
   OpR X f (rI C fun i j=> .int (g i j)):=by
 intro pins s σ H x y v u Q I rx ry h
 obtain⟨i,j,rfl,rfl,hc,q⟩:=h
 obtain⟨t,rfl⟩:=rx
 obtain⟨t',rfl⟩:=ry
 exact rule i j t t' s _ _ hc ⟨.int (g i j),H,I.tok _,⟨_,rfl⟩,q⟩
theorem Z4p{f:Value ->Value ->Sem Value}{g:Int ->Int ->Int}
   (rule:∀(i j:Int) (t u:Tok) (s:Shared) (Q:Value ->Shared ->Prop) (E:Value ->Shared ->Prop),Q (.int (g i j) s.toks) {s with toks:=s.toks+1} ->wpAny (model X.prog X.w) X.A (f (.int i t) (.int j u)) Q E s):
   OpR X f (rI0 fun i j=> .int (g i j)):=by
 intro pins s σ H x y v u Q I rx ry h
 obtain⟨i,j,rfl,rfl,q⟩:=h
 obtain⟨t,rfl⟩:=rx
 obtain⟨t',rfl⟩:=ry
 exact rule i j t t' s _ _ ⟨.int (g i j),H,I.tok _,⟨_,rfl⟩,q⟩
theorem Y6a{f:Value ->Value ->Sem Value}{g:Int ->Int ->Bool}
   (rule:∀(i j:Int) (t u:Tok) (s:Shared) (Q:Value ->Shared ->Prop) (E:Value ->Shared ->Prop),Q (.bool (g i j)) s ->wpAny (model X.prog X.w) X.A (f (.int i t) (.int j u)) Q E s):
   OpR X f (rI0 fun i j=> .bl (g i j)):=by
 intro pins s σ H x y v u Q I rx ry h
 obtain⟨i,j,rfl,rfl,q⟩:=h
 obtain⟨t,rfl⟩:=rx
 obtain⟨t',rfl⟩:=ry
 exact rule i j t t' s _ _ ⟨.bl (g i j),H,I,rfl,q⟩
noncomputable def Z6g (i j:Int):Prop:=0<=j/\j<=1000000/\i.natAbs<2^64
noncomputable def CMul (i j:Int):Prop:=(-(2^64)<i/\i<2^64)\/(-(2^64)<j/\j<2^64)
theorem CMul.ok{i j:Int}(h:CMul i j):IntMulOk i j:=by
 rcases h with⟨h1,h2⟩|⟨h1,h2⟩
 . exact .of_left (intBits_le_64 h1 h2)
 . exact .of_right (intBits_le_64 h1 h2)
theorem D9:OpR X (binaryOp .Add) (rI0 fun i j=> .int (i+j)):=Z4p fun _ _ _ _ _ _ _ q=>add_int q
theorem G9:OpR X (binaryOp .Sub) (rI0 fun i j=> .int (i-j)):=Z4p fun _ _ _ _ _ _ _ q=>sub_int q
theorem J1:OpR X (binaryOp .Mod) (rI (fun _ j=>0<j) fun i j=> .int (i % j)):=opI fun i j _ _ _ _ _ hc q=>by
 have h1:(0:Int)<j:=hc
 exact mod_int' (by omega) (by rw[Int.fmod_eq_emod_of_nonneg i (by omega)];exact q)
theorem U9z:OpR X (binaryOp .Pow) (rI Z6g fun i j=> .int (i^j.toNat)):=opI fun _ _ _ _ _ _ _ hc q=>pow_int_small hc.1 hc.2.1 hc.2.2 q
theorem unI{f:Value ->Sem Value}{g:Int ->Int}
   (rule:∀(i:Int) (t:Tok) (s:Shared) (Q:Value ->Shared ->Prop) (E:Value ->Shared ->Prop),Q (.int (g i) s.toks) {s with toks:=s.toks+1} ->wpAny (model X.prog X.w) X.A (f (.int i t)) Q E s):
   UnR X f (rU fun i=> .int (g i)):=by
 intro pins s σ H x v Q I rx h
 obtain⟨i,rfl,q⟩:=h
 obtain⟨t,rfl⟩:=rx
 exact rule i t s _ _ ⟨.int (g i),H,I.tok _,⟨_,rfl⟩,q⟩
theorem B5s:UnR X (unaryOp .USub) (rU fun i=> .int (-i)):=unI fun _ _ _ _ _ q=>neg_int q
end
noncomputable def Z6k:V ->V ->Bool
 | .non,.non=>true| .non,.int _=>true| .int _,.non=>true| .non,.bl _=>true| .bl _,.non=>true| .non,.str _=>true| .str _,.non=>true
 | .int _,.int _=>true| .bl _,.bl _=>true| .str _,.str _=>true| .byt _,.byt _=>true
 | .int _,.str _=>true| .str _,.int _=>true| .bl _,.str _=>true| .str _,.bl _=>true
 |_,_=>false
noncomputable def rEq:R2:=fun x y H Q=>Z6k x y=true/\Q (.bl (decide (x=y))) H
noncomputable def rNe:R2:=fun x y H Q=>Z6k x y=true/\Q (.bl (!decide (x=y))) H
theorem J6u{i j:Int}:decide (V.int i=V.int j)=(i==j):=by
 rw[Bool.eq_iff_iff]
 simp
theorem U7z{i j:Bool}:decide (V.bl i=V.bl j)=(i==j):=by
 rw[Bool.eq_iff_iff]
 simp
theorem J7d{i j:Str}:decide (V.str i=V.str j)=(i==j):=by
 rw[Bool.eq_iff_iff]
 simp
theorem J6x{i j:Array UInt8}:decide (V.byt i=V.byt j)=(i.toList==j.toList):=by
 rw[Bool.eq_iff_iff]
 cases i
 cases j
 simp
section
variable{X:Cx}{a b c:Expr}{ta tb tc:TE}{pos:Pos}
theorem J3{pins:List (Addr×Obj)}{σ:St}{H:Hp}{s:Shared}{Q:VK}{k k':Bool}(I:Inv X pins σ H s)(q:Q (.bl k) H)(e:k=k'):EP X pins σ Q (.bool k') s:=by
 subst e
 exact⟨.bl k,H,I,rfl,q⟩
theorem G4:OpR X (compareOp .Eq) rEq:=by
 intro pins s σ H x y v u Q I rx ry h
 obtain⟨hs,q⟩:=h
 cases x with
 | non=>
   cases rx
   cases y with
   |non=>cases ry;exact PySem.EqNone.eq_none_none (J3 I q (by simp))
   |bl j=>cases ry;exact PySem.EqNone.eq_none_bool (J3 I q (by simp))
   |int j=>obtain⟨t',rfl⟩:=ry;exact PySem.EqNone.eq_none_int (J3 I q (by simp))
   |str j=>obtain⟨t',rfl⟩:=ry;exact PySem.EqNone.eq_none_str (J3 I q (by simp))
   |_=>exact absurd (show false=true from hs) Bool.false_ne_true
 | bl i=>
   cases rx
   cases y with
   |non=>cases ry;exact PySem.EqNone.eq_bool_none (J3 I q (by simp))
   |bl j=>cases ry;exact eq_bool (J3 I q U7z)
   |str j=>obtain⟨t',rfl⟩:=ry;exact PySem.EqMixed.eq_bool_str (J3 I q (by simp))
   |_=>exact absurd (show false=true from hs) Bool.false_ne_true
 | int i=>
   obtain⟨t,rfl⟩:=rx
   cases y with
   |non=>cases ry;exact PySem.EqNone.eq_int_none (J3 I q (by simp))
   |int j=>obtain⟨t',rfl⟩:=ry;exact eq_int (J3 I q J6u)
   |str j=>obtain⟨t',rfl⟩:=ry;exact PySem.EqMixed.eq_int_str (J3 I q (by simp))
   |_=>exact absurd (show false=true from hs) Bool.false_ne_true
 | str i=>
   obtain⟨t,rfl⟩:=rx
   cases y with
   |non=>cases ry;exact PySem.EqNone.eq_str_none (J3 I q (by simp))
   |bl j=>cases ry;exact PySem.EqMixed.eq_str_bool (J3 I q (by simp))
   |int j=>obtain⟨t',rfl⟩:=ry;exact PySem.EqMixed.eq_str_int (J3 I q (by simp))
   |str j=>obtain⟨t',rfl⟩:=ry;exact eq_str (J3 I q J7d)
   |_=>exact absurd (show false=true from hs) Bool.false_ne_true
 | byt i=>
   obtain⟨t,rfl⟩:=rx
   cases y with
   |byt j=>obtain⟨t',rfl⟩:=ry;exact PySem.W.eq_bytes (J3 I q J6x)
   |_=>exact absurd (show false=true from hs) Bool.false_ne_true
 |_=>cases y<;>exact absurd (show false=true from hs) Bool.false_ne_true
theorem B2g:OpR X (compareOp .NotEq) rNe:=by
 intro pins s σ H x y v u Q I rx ry h
 obtain⟨hs,q⟩:=h
 cases x with
 | non=>
   cases rx
   cases y with
   |non=>cases ry;exact PySem.EqNone.ne_none_none (J3 I q (by simp))
   |bl j=>cases ry;exact PySem.EqNone.ne_none_bool (J3 I q (by simp))
   |int j=>obtain⟨t',rfl⟩:=ry;exact PySem.EqNone.ne_none_int (J3 I q (by simp))
   |str j=>obtain⟨t',rfl⟩:=ry;exact PySem.EqNone.ne_none_str (J3 I q (by simp))
   |_=>exact absurd (show false=true from hs) Bool.false_ne_true
 | bl i=>
   cases rx
   cases y with
   |non=>cases ry;exact PySem.EqNone.ne_bool_none (J3 I q (by simp))
   |bl j=>cases ry;exact ne_bool (J3 I q (congrArg not U7z))
   |str j=>obtain⟨t',rfl⟩:=ry;exact PySem.EqMixed.ne_bool_str (J3 I q (by simp))
   |_=>exact absurd (show false=true from hs) Bool.false_ne_true
 | int i=>
   obtain⟨t,rfl⟩:=rx
   cases y with
   |non=>cases ry;exact PySem.EqNone.ne_int_none (J3 I q (by simp))
   |int j=>obtain⟨t',rfl⟩:=ry;exact ne_int (J3 I q (congrArg not J6u))
   |str j=>obtain⟨t',rfl⟩:=ry;exact PySem.EqMixed.ne_int_str (J3 I q (by simp))
   |_=>exact absurd (show false=true from hs) Bool.false_ne_true
 | str i=>
   obtain⟨t,rfl⟩:=rx
   cases y with
   |non=>cases ry;exact PySem.EqNone.ne_str_none (J3 I q (by simp))
   |bl j=>cases ry;exact PySem.EqMixed.ne_str_bool (J3 I q (by simp))
   |int j=>obtain⟨t',rfl⟩:=ry;exact PySem.EqMixed.ne_str_int (J3 I q (by simp))
   |str j=>obtain⟨t',rfl⟩:=ry;exact ne_str (J3 I q (congrArg not J7d))
   |_=>exact absurd (show false=true from hs) Bool.false_ne_true
 | byt i=>
   obtain⟨t,rfl⟩:=rx
   cases y with
   |byt j=>obtain⟨t',rfl⟩:=ry;exact PySem.W.ne_bytes (J3 I q (congrArg not J6x))
   |_=>exact absurd (show false=true from hs) Bool.false_ne_true
 |_=>cases y<;>exact absurd (show false=true from hs) Bool.false_ne_true
theorem B9k:OpR X (compareOp .Lt) (rI0 fun i j=> .bl (decide (i<j))):=Y6a fun _ _ _ _ _ _ _ q=>lt_int q
theorem J6v:OpR X (compareOp .LtE) (rI0 fun i j=> .bl (decide (i<=j))):=Y6a fun _ _ _ _ _ _ _ q=>le_int q
theorem B2e:OpR X (compareOp .Gt) (rI0 fun i j=> .bl (decide (j<i))):=Y6a fun _ _ _ _ _ _ _ q=>gt_int q
theorem J6e:OpR X (compareOp .GtE) (rI0 fun i j=> .bl (decide (j<=i))):=Y6a fun _ _ _ _ _ _ _ q=>ge_int q
theorem J8z:OpR X (compareOp .In) (fun x y H Q=>∃i j,x= .str i/\y= .str j/\Q (.bl (!(Builtin.Str.occurrences j i 0 j.length 1).isEmpty)) H):=by
 intro pins s σ H x y v u Q I rx ry h
 obtain⟨i,j,rfl,rfl,q⟩:=h
 obtain⟨t,rfl⟩:=rx
 obtain⟨t',rfl⟩:=ry
 exact in_str (J3 I q rfl)
theorem Z1c:OpR X (compareOp .Is) (fun x y H Q=>y= .non/\Q (.bl (decide (x= .non))) H):=by
 intro pins s σ H x y v u Q I rx ry h
 obtain⟨rfl,q⟩:=h
 cases ry
 refine is_none_gen (J3 I q ?_)
 cases x<;>first
   |(cases rx;rfl)
   |(obtain⟨t,rfl⟩:=rx;rfl)
theorem B5(b:Expr){op:CmpOp}(h:op≠ .In:=by decide)(h2:op≠ .NotIn:=by decide):behindInMarks op b=false:=by
 have e1:(op==CmpOp.In)=false:=by cases op<;>first|rfl|exact absurd rfl h
 have e2:(op==CmpOp.NotIn)=false:=by cases op<;>first|rfl|exact absurd rfl h2
 cases b<;>simp[behindInMarks,e1,e2]
theorem D3{op:CmpOp}{r:R2}(ho:OpR X (compareOp op) r)(ha:PE X a ta)(hb:PE X b tb)(hm:behindInMarks op b=false):PE X (.Compare a [op] [b] pos) (tOp r ta tb):=by
 intro pins s σ H Q I h
 exact wpAny_Compare1 (Z1d ha hb I h fun v u s2 x y H2 I2 rx ry q=>ho pins s2 σ H2 x y v u Q I2 rx ry q) hm
noncomputable def Z4z (t:TE):TT:=fun σ H Q=>t σ H fun x H'=>∃k,x= .bl k/\Q k H'
theorem C4{op:CmpOp}{r:R2}(ho:OpR X (compareOp op) r)(ha:PE X a ta)(hb:PE X b tb)(hm:behindInMarks op b=false):PT X (.Compare a [op] [b] pos) (Z4z (tOp r ta tb)):=by
 intro pins s σ H Q I h
 refine wpAny_isTrue_Compare1 (thn (ha pins s σ H _ I h) fun v s1 ⟨x,H1,I1,r1,q1⟩=>thn (hb pins s1 σ H1 _ I1 q1) fun u s2 ⟨y,H2,I2,r2,q2⟩=>
   thn (ho pins s2 σ H2 x y v u _ I2 r1 r2 q2) fun c s3 ⟨z,H3,I3,r3,k,e,q3⟩=>?_) hm
 subst e
 cases r3
 exact wpAny_truthy_bool ⟨H3,I3,q3⟩
theorem C1a:(sizeLine:Nat)<2^63:=by rw[sizeLine_eq];decide
theorem G7x:OpR X (binaryOp .Add) (fun x y H Q=>∃i j,x= .str i/\y= .str j/\i.length+j.length<=sizeLine/\Q (.str (i++j)) H):=by
 intro pins s σ H x y v u Q I rx ry h
 obtain⟨i,j,rfl,rfl,hz,q⟩:=h
 obtain⟨t,rfl⟩:=rx
 obtain⟨t',rfl⟩:=ry
 exact add_str (fun t' tk=>⟨.str (i++j),H,I.tok _,⟨_,rfl⟩,q⟩) hz
theorem C1r{x:V}{us:List Value}(r:Vals [x] us):∃u,us=[u]/\RelV x u:=by
 cases r with
 |cons r1 r2=>cases r2;exact⟨_,rfl,r1⟩
theorem Y8y{x y:V}{us:List Value}(r:Vals [x,y] us):∃u w',us=[u,w']/\RelV x u/\RelV y w':=by
 cases r with
 | cons r1 r2=>
   cases r2 with
   |cons r3 r4=>cases r4;exact⟨_,_,rfl,r1,r3⟩
theorem V1(hc:X.calm=true):A7z X (.builtin "max") (fun xs H Q=>∃i j,xs=[.int i,.int j]/\Q (.int (if j>i then j else i)) H):=by
 intro pins s σ H xs us Q I r h
 obtain⟨i,j,rfl,q⟩:=h
 obtain⟨u,w',rfl,⟨t,rfl⟩,⟨t',rfl⟩⟩:=Y8y r
 refine max_two_ints (I.ok.hd hc) fun h' tk k=>⟨_,H,I.kept k,?_,q⟩
 by_cases hj:j>i
 . rw[if_pos hj,if_pos hj];exact⟨_,rfl⟩
 . rw[if_neg hj,if_neg hj];exact⟨_,rfl⟩
theorem D0t(hc:X.calm=true):A7z X (.builtin "min") (fun xs H Q=>∃i j,xs=[.int i,.int j]/\Q (.int (if j<i then j else i)) H):=by
 intro pins s σ H xs us Q I r h
 obtain⟨i,j,rfl,q⟩:=h
 obtain⟨u,w',rfl,⟨t,rfl⟩,⟨t',rfl⟩⟩:=Y8y r
 refine min_two_ints (I.ok.hd hc) fun h' tk k=>⟨_,H,I.kept k,?_,q⟩
 by_cases hj:j<i
 . rw[if_pos hj,if_pos hj];exact⟨_,rfl⟩
 . rw[if_neg hj,if_neg hj];exact⟨_,rfl⟩
theorem A1x:A7z X (.type "int") (fun xs H Q=>(∃i,xs=[.int i]/\Q (.int i) H)\/∃k,xs=[.bl k]/\Q (.int (if k then 1 else 0)) H):=by
 intro pins s σ H xs us Q I r h
 rcases h with⟨i,rfl,q⟩|⟨k,rfl,q⟩
 . obtain⟨u,rfl,t,rfl⟩:=C1r r
   exact call_int_int ⟨.int i,H,I,⟨_,rfl⟩,q⟩
 . obtain⟨u,rfl,r1⟩:=C1r r
   cases r1
   exact call_int_bool ⟨.int (if k then 1 else 0),H,I.tok _,⟨_,rfl⟩,q⟩
theorem U3:A7z X (.type "str") (fun xs H Q=>∃i,xs=[.int i]/\i.natAbs.log2<1920/\Q (.str (toString i)) H):=by
 intro pins s σ H xs us Q I r h
 obtain⟨i,rfl,hz,q⟩:=h
 obtain⟨u,rfl,t,rfl⟩:=C1r r
 exact PySem.P.str_of_int hz ⟨.str _,H,I.tok _,⟨_,rfl⟩,q⟩
end
structure ObjM(h:Heap)(x dx C:Addr)(mA:Str ->Option Value):Prop where
 obj:h.get? x=some (PySem.W.instObj C dx)
 ns:h.Ns1 dx mA
 ne:dx≠x
theorem D0a{h:Heap}{dx:Addr}{mA:Str ->Option Value}(n:h.Ns1 dx mA):∃od,h.get? dx=some od/\∀name,PySem.W.lookIn name od=some (mA name):=by
 obtain⟨o,es,ep,ho,hd,hk,_,hm⟩:=n
 refine⟨o,ho,fun name=>?_⟩
 have e:=hm name
 unfold nsFind findBy at e
 rw[<-Array.find?_toList] at e
 unfold PySem.W.lookIn
 rw[hd]
 dsimp only
 split
 . rename_i y q
   rw[q] at e
   exact congrArg some e
 . rename_i q
   rw[q] at e
   have a:es.toList.any (·.refKey)=false:=by
     rw[List.any_eq_false]
     intro y hy
     obtain⟨z,t,hkey⟩:=hk y (Array.mem_toList_iff.mp hy)
     simp[DictEntry.refKey,hkey]
   have a':¬es.toList.any (·.refKey)=true:=by rw[a];exact Bool.false_ne_true
   rw[if_neg a']
   exact congrArg some e
theorem ObjM.look{h:Heap}{x dx C:Addr}{mA:Str ->Option Value}(I:ObjM h x dx C mA):∃od,PySem.W.InstAt h x (PySem.W.instObj C dx) C (some od)/\∀name,PySem.W.lookIn name od=some (mA name):=
 let⟨od,ho,hl⟩:=D0a I.ns
 ⟨od,⟨I.obj,rfl,rfl,ho⟩,hl⟩
section
variable{prog:Program}{w:World}{A:Around}{E:Value ->Shared ->Prop}{s:Shared}{K:PySem.W.Frag}{x dx C f:Addr}{mA:Str ->Option Value}{name:Str}{v:Value}
theorem Y4p{expr:Bool}{Q:Value ->Shared ->Prop}(X:K.In s.heap)(I:ObjM s.heap x dx C mA)(hg:PySem.W.plainGet K C name=true)(hh:PySem.W.hasDictIn K C=true)
   (ha:PySem.W.findIn K (.ref C) name=some none) (hv:mA name=some v) (hv':PySem.W.handedIn v=true) (h:Q v {s with toks:=s.toks+1}):
   wpAny (model prog w) A (getAttr (.ref x) name expr) Q E s:=by
 obtain⟨od,J,hl⟩:=I.look
 exact PySem.W.get_value X J (PySem.W.plainGet_of hg).1 (PySem.W.findObj_own hh ha rfl (by rw[hl,hv])) hv' h
theorem U9e{pl:Sem Bool}{Q:Value×List Value ->Shared ->Prop}(X:K.In s.heap)(I:ObjM s.heap x dx C mA)(hg:PySem.W.plainGet K C name=true)
   (hf:PySem.W.findIn K (.ref C) name=some (some (.ref f))) (ht:PySem.W.isFn K (.ref f)=true) (hv:mA name=none) (h:Q (.ref f,[.ref x]) s):
   wpAny (model prog w) A (getMethod (.ref x) name pl) Q E s:=by
 obtain⟨od,J,hl⟩:=I.look
 exact PySem.W.method_fn X J (PySem.W.plainGet_of hg).1 (PySem.W.plainGet_of hg).2 hf (beq_iff_eq.mp ht) (by show(PySem.W.lookIn name od).map (·.isSome)=some false;rw[hl,hv];rfl) h
theorem Y5u{ns:List Str}{Q:Unit ->Shared ->Prop}(X:K.In s.heap)(I:ObjM s.heap x dx C mA)
   (hs:PySem.W.findIn K (.ref C) "__setattr__"=some (some (.builtin "object.__setattr__"))) (hp:PySem.W.plainOver K C=true) (ht:PySem.W.takerIn K C name=some none) (hh:PySem.W.hasDictIn K C=true)
   (hw:PySem.Within mA ns) (hsz:ns.length<=sizeLine)
   (h:∀h',ObjM h' x dx C (fun y=>if y=name then some v else mA y) ->Heap.SameBut dx s.heap h' ->Q () {s with heap:=h',toks:=s.toks+2}):
   wpAny (model prog w) A (setAttr (.ref x) name v) Q E s:=by
 obtain⟨od,J,hl⟩:=I.look
 refine PySem.W.set_plain X J hs (PySem.W.osa_open (s:={s with toks:=s.toks+1}) (r:=none) X J hp ht fun b=>?_)
 obtain⟨cd,hc,hd'⟩:=PySem.W.any_some hh
 have hx:s.heap.get? x=some ⟨.ref C,some dx,.plain, #[]⟩:=I.obj
 refine wpAny_bind (wpAny_pure (wpAny_bind (wpAny_bind (wpAny_loadPart hx (wpAny_bind (PySem.W.Looks.here (s:={s with toks:=s.toks+1}) (PySem.W.looks_clsIn X hc) ?_))))))
 rw[hd']
 refine wpAny_pure (a:=some dx) (wpAny_bind (wpAny_pure (wpAny_bind ?_)))
 refine wpAny_nsSet1 (s:={s with toks:=s.toks+1}) I.ns fun h' hn2 hs2=>?_
 obtain⟨oD,esD,epD,hoD,hdD,hcD⟩:=hn2.count (PySem.Within.cons name v hw)
 refine wpAny_bind (wpAny_lookBehind hoD (by rw[hdD];exact pastItsLine_dict (Nat.le_trans hcD (by rw[List.length_cons];omega))) ?_)
 exact wpAny_pure (h _ ⟨(hs2.2 _ (Ne.symm I.ne)).trans I.obj,hn2,I.ne⟩ hs2)
theorem G3f{R:Result ->Shared ->Prop}{vs:List Value}{kw:List (Str×Value)}(X:K.In s.heap)(hm:PySem.W.makesIn K C=true)
   (hi:PySem.W.findIn K (.ref C) "__init__"=some (some (.ref f))) (hf:PySem.W.typeIn K (.ref f)=some (.type "function"))
   (h:codeAny (model prog w) (A.under (.builtin "type.__call__" ⟨.ref C::vs,kw⟩)) (.call (.ref f) ⟨.ref (s.heap.objs.size+1)::vs,kw⟩) (PySem.W.InitBack (s.heap.objs.size+1) R)
     {s with heap:=(s.heap.push PySem.W.emptyDict).push (PySem.W.instObj C s.heap.objs.size)}):
   codeAny (model prog w) A (.call (.ref C) ⟨vs,kw⟩) R s:=by
 obtain⟨hh,g,d,t,os⟩:=s
 exact PySem.W.make_core (PySem.W.makes_of X hm) (PySem.W.looks_findIn X hi) (fun self=>PySem.W.bind_fn X self hf) (.inl rfl) h
theorem J8t{R:Result ->Shared ->Prop}(X:K.In s.heap)(hm:PySem.W.makesIn K C=true)
   (hi:PySem.W.findIn K (.ref C) "__init__"=some (some (.builtin "object.__init__")))
   (hb:∀self,PySem.W.Looks (model prog w) s.heap (bindSpecial (.builtin "object.__init__") self) (.builtin "object.__init__",[self]))
   (h:codeAny (model prog w) (A.under (.builtin "type.__call__" ⟨[.ref C],[]⟩)) (.call (.builtin "object.__init__") ⟨[.ref (s.heap.objs.size+1)],[]⟩) (PySem.W.InitBack (s.heap.objs.size+1) R)
     {s with heap:=(s.heap.push PySem.W.emptyDict).push (PySem.W.instObj C s.heap.objs.size)}):
   codeAny (model prog w) A (.call (.ref C) ⟨[],[]⟩) R s:=by
 obtain⟨hh,g,d,t,os⟩:=s
 exact PySem.W.make_core (PySem.W.makes_of X hm) (PySem.W.looks_findIn X hi) hb (.inr ⟨rfl,rfl⟩) h
end
noncomputable def U1 (f:Str) (v:V):List (Str×V) ->List (Str×V)
 | []=>[(f,v)]
 |(g,x)::r=>if g=f then(g,v)::r else(g,x)::U1 f v r
theorem D4(f g:Str)(v:V):∀fs:List (Str×V),(U1 f v fs).lookup g=if g=f then some v else fs.lookup g
 | []=>by
   show List.lookup g [(f,v)]=_
   by_cases h:g=f
   . have hb:(g==f)=true:=beq_iff_eq.mpr h
     simp only[List.lookup,hb,if_pos h]
   . have hb:(g==f)=false:=beq_eq_false_iff_ne.mpr h
     simp only[List.lookup,hb,if_neg h]
 | (k, x)::r=>by
   have ih:=D4 f g v r
   rw[show U1 f v ((k,x)::r)=(if k=f then(k,v)::r else(k,x)::U1 f v r) from rfl]
   by_cases hk:k=f
   . rw[if_pos hk]
     by_cases h:g=k
     . have hb:(g==k)=true:=beq_iff_eq.mpr h
       simp only[List.lookup,hb,if_pos (h.trans hk)]
     . have hb:(g==k)=false:=beq_eq_false_iff_ne.mpr h
       simp only[List.lookup,hb,if_neg (fun e:g=f=>h (e.trans hk.symm))]
   . rw[if_neg hk]
     by_cases h:g=k
     . have hb:(g==k)=true:=beq_iff_eq.mpr h
       simp only[List.lookup,hb,if_neg (fun e:g=f=>hk (h.symm.trans e))]
     . have hb:(g==k)=false:=beq_eq_false_iff_ne.mpr h
       simp only[List.lookup,hb]
       exact ih
theorem B5t(f:Str)(v:V):∀fs:List (Str×V),f∈(U1 f v fs).map (·.1)/\∀g,g∈fs.map (·.1) ->g∈(U1 f v fs).map (·.1)
 | []=>⟨by simp[U1],fun g h=>by simp at h⟩
 | (k, x)::r=>by
   obtain⟨i1,i2⟩:=B5t f v r
   rw[show U1 f v ((k,x)::r)=(if k=f then(k,v)::r else(k,x)::U1 f v r) from rfl]
   by_cases hk:k=f
   . rw[if_pos hk]
     subst hk
     exact⟨by simp,fun g h=>by simpa using h⟩
   . rw[if_neg hk]
     refine⟨?_,fun g h=>?_⟩
     . rw[List.map_cons]
       exact List.mem_cons_of_mem _ i1
     . rw[List.map_cons] at h ⊢
       rcases List.mem_cons.mp h with e|e
       . exact List.mem_cons.mpr (.inl e)
       . exact List.mem_cons_of_mem _ (i2 g e)
theorem Y9(f:Str)(v:V):∀fs:List (Str×V),(U1 f v fs).length<=fs.length+1
 | []=>by simp[U1]
 | (k,x)::r=>by
   have ih:=Y9 f v r
   rw[show U1 f v ((k,x)::r)=(if k=f then(k,v)::r else(k,x)::U1 f v r) from rfl]
   by_cases hk:k=f
   . rw[if_pos hk,List.length_cons,List.length_cons];omega
   . rw[if_neg hk,List.length_cons,List.length_cons];omega
theorem RelO.some_of{v:V}{o:Option Value}(r:RelO (some v) o):∃u,o=some u/\RelV v u:=by
 cases o with
 |none=>exact(show False from r).elim
 |some u=>exact⟨u,rfl,r⟩
theorem RelO.none_of{o:Option Value}(r:RelO none o):o=none:=by
 cases o with
 |none=>rfl
 |some u=>exact(show False from r).elim
theorem J8r{v:V}{u:Value}(r:RelV v u):PySem.W.handedIn u=true:=by
 cases v with
 |non=>cases(show u=Value.none from r);rfl
 |bl b=>cases(show u=Value.bool b from r);rfl
 |int i=>obtain⟨t,e⟩:=(show∃t,u=Value.int i t from r);cases e;rfl
 |str x=>obtain⟨t,e⟩:=(show∃t,u=Value.str x t from r);cases e;rfl
 |byt b=>obtain⟨t,e⟩:=(show∃t,u=Value.bytes b t from r);cases e;rfl
 |flt b=>obtain⟨t,e⟩:=(show∃t,u=Value.float b t from r);cases e;rfl
 |ref a=>cases(show u=Value.ref a from r);rfl
 |ty n=>cases(show u=Value.type n from r);rfl
section
variable{P:Program}{w:World}{H H':Hp}{h h':Heap}{a C dx:Addr}{fs fs':List (Str×V)}
theorem B9x(hok:HOk P w H h)(e:H a=some (.ins C dx fs)):∃mA,ObjM h a dx C mA/\(∀f,RelO (fs.lookup f) (mA f))/\PySem.Within mA (fs.map (·.1))/\fs.length<=1000/\H dx=some (.own a):=by
 obtain⟨d,z,ne,ob,mA,n,r,q⟩:=(show ObjOk P w H h a (.ins C dx fs) from hok a _ e)
 exact⟨mA,⟨ob,n,ne⟩,r,q,z,d⟩
end
structure Cls(K:PySem.W.Frag)(C:Addr):Prop where
 pg:PySem.W.plainGet K C Str.empty=true
 hd:PySem.W.hasDictIn K C=true
 po:PySem.W.plainOver K C=true
 sa:PySem.W.findIn K (.ref C) "__setattr__"=some (some (.builtin "object.__setattr__"))
theorem Cls.get{K:PySem.W.Frag}{C:Addr}(c:Cls K C)(f:Str):PySem.W.plainGet K C f=true:=c.pg
noncomputable def NoAttr (K:PySem.W.Frag) (C:Addr) (f:Str):Prop:=PySem.W.findIn K (.ref C) f=some none
theorem NoAttr.taker{K:PySem.W.Frag}{C:Addr}{f:Str}(n:NoAttr K C f):PySem.W.takerIn K C f=some none:=by
 unfold PySem.W.takerIn
 rw[show PySem.W.findIn K (.ref C) f=some none from n]
 rfl
structure Meth(K:PySem.W.Frag)(C:Addr)(m:Str)(f:Addr):Prop where
 at_:PySem.W.findIn K (.ref C) m=some (some (.ref f))
 fn:PySem.W.isFn K (.ref f)=true
 kp:PySem.W.keepIn K (.ref f)=true
section
variable{X:Cx}{pins:List (Addr×Obj)}{σ:St}{H:Hp}{s:Shared}{a C dx:Addr}{fs:List (Str×V)}{f:Str}{v:V}{A:Around}{E:Value ->Shared ->Prop}
theorem G8j{b:Bool}{Q:Value ->Shared ->Prop}(I:Inv X pins σ H s)(e:H a=some (.ins C dx fs))(c:Cls X.K C)(n:NoAttr X.K C f)(l:fs.lookup f=some v)
   (h:∀u s',Inv X pins σ H s' ->RelV v u ->Q u s'):wpAny (model X.prog X.w) A (getAttr (.ref a) f b) Q E s:=by
 obtain⟨mA,O,r,_,_,_⟩:=B9x I.hok e
 obtain⟨u,hu,ru⟩:=RelO.some_of (v:=v) (o:=mA f) (by rw[<-l];exact r f)
 exact Y4p I.kIn O (c.get f) c.hd n hu (J8r ru) (h u _ (I.tok _) ru)
theorem C0q{m:Str}{g:Addr}{pl:Sem Bool}{Q:Value×List Value ->Shared ->Prop}(I:Inv X pins σ H s)(e:H a=some (.ins C dx fs))(c:Cls X.K C)(k:Meth X.K C m g)(l:fs.lookup m=none)
   (h:Q (.ref g,[.ref a]) s):wpAny (model X.prog X.w) A (getMethod (.ref a) m pl) Q E s:=by
 obtain⟨mA,O,r,_,_,_⟩:=B9x I.hok e
 have hn:mA m=none:=RelO.none_of (by rw[<-l];exact r m)
 exact U9e I.kIn O (c.get m) k.at_ k.fn hn h
theorem G7t{y:V}{u:Value}{Q:Unit ->Shared ->Prop}(I:Inv X pins σ H s)(e:H a=some (.ins C dx fs))(c:Cls X.K C)(n:NoAttr X.K C f)(hl:fs.length<1000)(ry:RelV y u)
   (h:∀s',Inv X pins σ (upd H a (.ins C dx (U1 f y fs))) s' ->Q () s'):wpAny (model X.prog X.w) A (setAttr (.ref a) f u) Q E s:=by
 obtain⟨mA,O,r,wi,_,ho⟩:=B9x I.hok e
 have hz:(fs.map (·.1)).length<=sizeLine:=by rw[List.length_map,sizeLine_eq];omega
 refine Y5u I.kIn O c.sa c.po n.taker c.hd wi hz fun h' O' sb=>h _ ?_
 have hd:∃o,h'.get? dx=some o:=let⟨o,_,_,e',_⟩:=O'.ns;⟨o,e'⟩
 refine I.write (x:=a) (e:=dx) (by rw[e];exact True.intro) (.inr ho) (fun b q hb z=>(sb.2 b hb).trans z) hd ?_
 refine⟨by rw[C9 O.ne];exact ho,?_,O.ne,O'.obj,_,O'.ns,fun g=>?_,fun g hg=>?_⟩
 . have:=Y9 f y fs;omega
 . show RelO ((U1 f y fs).lookup g) (if g=f then some u else mA g)
   rw[D4]
   by_cases q:g=f
   . rw[if_pos q,if_pos q];exact ry
   . rw[if_neg q,if_neg q];exact r g
 . by_cases q:g=f
   . rw[q];exact(B5t f y fs).1
   . refine(B5t f y fs).2 g (wi g fun z=>hg ?_)
     show(if g=f then some u else mA g)=none
     rw[if_neg q];exact z
theorem Inv.made(I:Inv X pins σ H s):Inv X pins σ (upd (upd H s.heap.objs.size (.own (s.heap.objs.size+1))) (s.heap.objs.size+1) (.ins C s.heap.objs.size []))
   {s with heap:=(s.heap.push PySem.W.emptyDict).push (PySem.W.instObj C s.heap.objs.size)}:=by
 have e1:(s.heap.push PySem.W.emptyDict).get? s.heap.objs.size=some PySem.W.emptyDict:=Heap.get?_push_size s.heap rfl
 have e2:((s.heap.push PySem.W.emptyDict).push (PySem.W.instObj C s.heap.objs.size)).get? (s.heap.objs.size+1)=some (PySem.W.instObj C s.heap.objs.size):=by
   have:=Heap.get?_push_size (s.heap.push PySem.W.emptyDict) (o:=PySem.W.instObj C s.heap.objs.size) rfl
   rwa[Heap.size_push] at this
 have e3:(s.heap.push PySem.W.emptyDict).Ns s.heap.objs.size (fun _=>none):=⟨PySem.W.emptyDict, #[],_,e1,rfl,(fun e he=>absurd he (by simp)),fun _=>rfl⟩
 have I1:=I.laid (a:=s.heap.objs.size) (o:= .own (s.heap.objs.size+1)) (h':=s.heap.push PySem.W.emptyDict) (t':=s.toks) (fun b u q=>Heap.get?_push_of_some _ q) (Nat.le_refl _) ⟨_,e1⟩
 refine I1.laid (a:=s.heap.objs.size+1) (o:= .ins C s.heap.objs.size []) (t':=s.toks) (fun b u q=>Heap.get?_push_of_some _ q) (Nat.le_of_eq (Heap.size_push _ _)) ?_
 have ne:s.heap.objs.size≠s.heap.objs.size+1:=Nat.ne_of_lt (Nat.lt_succ_self _)
 refine⟨by rw[C9 ne,A8],Nat.zero_le _,ne,e2,fun _=>none,(Heap.Ns1.of_empty e3).at fun o q=>Heap.get?_push_of_some _ q,fun _=>True.intro,fun y hy=>absurd rfl hy⟩
theorem Y5w{prog:Program}{w:World}{env:Env}{e:Expr}{f:Str}{pos:Pos}{s:Shared}{Q:Value ->Shared ->Prop}(hb:attributeBase e f env (eval e env)=eval e env)
   (h:wpAny (model prog w) A (eval e env) (fun o s₁=>wpAny (model prog w) A (getAttr o f true) Q E s₁) E s):wpAny (model prog w) A (eval (.Attribute e f pos) env) Q E s:=
 Attribute_any_ h (by rw[arm_eval_Attribute,hb])
end
noncomputable def tFld (K:PySem.W.Frag) (ta:TE) (f:Str):TE:=fun σ H Q=>ta σ H fun x H1=>∃a C dx fs v,x= .ref a/\H1 a=some (.ins C dx fs)/\Cls K C/\NoAttr K C f/\fs.lookup f=some v/\Q v H1
noncomputable def Z9x (K:PySem.W.Frag) (ta tv:TE) (f:Str):TS:=fun D σ H=>tv σ H fun y H1=>ta σ H1 fun x H2=>∃a C dx fs,x= .ref a/\H2 a=some (.ins C dx fs)/\Cls K C/\NoAttr K C f/\fs.length<1000/\
 D.nx σ (upd H2 a (.ins C dx (U1 f y fs)))
section
variable{X:Cx}{o e value:Expr}{f:Str}{pos pos' tpos:Pos}{ta tv:TE}
theorem G3(he:PE X e ta)(hb:attributeBase e f X.env (eval e X.env)=eval e X.env):PE X (.Attribute e f pos) (tFld X.K ta f):=by
 intro pins s σ H Q I h
 refine Y5w hb (thn (he pins s σ H _ I h) fun u s1 hh_=>?_)
 obtain⟨x,H1,I1,rx,a,C,dx,fs,v,ex,ea,c,n,l,q⟩:=hh_
 subst ex
 obtain rfl:u=Value.ref a:=rx
 exact G8j I1 ea c n l fun u' s2 I2 ru=>⟨v,H1,I2,ru,q⟩
theorem Y0(ha:PE X o ta)(hv:PE X value tv)(hs:swapsWith value (some (.Attribute o f pos')) pos.line X.env=pure false):PS X (.Assign [.Attribute o f pos'] value pos) (Z9x X.K ta tv f):=by
 intro pins s σ H D I h
 refine plainObj_wpAny_Assign_Attribute (thn (hv pins s σ H _ I h) fun u s1 ⟨y,H1,I1,ry,q⟩=>thn (ha pins s1 σ H1 _ I1 q) fun ov s2 hh_=>?_) hs
 obtain⟨x,H2,I2,rx,a,C,dx,fs,ex,ea,c,n,l,q2⟩:=hh_
 subst ex
 obtain rfl:ov=Value.ref a:=rx
 exact G7t I2 ea c n l ry fun s3 I3=>⟨σ,_,I3,q2⟩
end
section
variable{X:Cx}{pins:List (Addr×Obj)}{σ:St}{H:Hp}{s:Shared}{A:Around}{E:Value ->Shared ->Prop}{Q:Value ->Shared ->Prop}{c:Value}{b:Bool}
inductive TyOf(K:PySem.W.Frag)(H:Hp):V ->Value ->Prop where
 |non:TyOf K H .non (.type "NoneType")
 |bl (x:Bool):TyOf K H (.bl x) (.type "bool")
 |int (i:Int):TyOf K H (.int i) (.type "int")
 |str (x:Str):TyOf K H (.str x) (.type "str")
 |flt (x:UInt64):TyOf K H (.flt x) (.type "float")
 |lst {a:Addr} {xs:List V} (e:H a=some (.lst xs)):TyOf K H (.ref a) (.type "list")
 |frz {a:Addr} {o:Obj} {xs:List V} (e:H a=some (.frz o (.lst xs))):TyOf K H (.ref a) (.type "list")
 |tup {a:Addr} {xs:List V} (e:H a=some (.tup xs)):TyOf K H (.ref a) (.type "tuple")
 |dK {a:Addr} {kvs:List (Key×V)} (e:H a=some (.dK kvs)):TyOf K H (.ref a) (.type "dict")
 |dT {a:Addr} {kvs:List (List Key×V)} (e:H a=some (.dT kvs)):TyOf K H (.ref a) (.type "dict")
 |ins {a C dx:Addr} {fs:List (Str×V)} (e:H a=some (.ins C dx fs)) (cl:Cls K C) (ha:PySem.W.findIn K (.ref C) "__class__"=some (some (.builtin "object.__class__")))
     (hn:PySem.W.specialIn K (.builtin "object.__class__") "__get__"=some (some (.builtin "getset_descriptor.__get__"))) (htk:PySem.W.takesIn K (.builtin "object.__class__")=some true)
     (hm:PySem.W.mroIn K C (.type "object")=some true):TyOf K H (.ref a) (.ref C)
theorem J9s{x:V}{u t:Value}(I:Inv X pins σ H s)(rx:RelV x u)(ty:TyOf X.K H x t)(e:PySem.W.kitOne X.K t c=some b)(h:∀tk,Q (.bool b) {s with toks:=tk}):
   wpAny (model X.prog X.w) A (call (.builtin "isinstance") [u,c]) Q E s:=by
 cases ty with
 |non=>cases(show u=Value.none from rx);exact PySem.W.kia_one PySem.W.kitx_none I.kIn True.intro e (fun z=>nomatch z) h
 |bl y=>cases(show u=Value.bool y from rx);exact PySem.W.kia_one PySem.W.kitx_bool I.kIn True.intro e (fun z=>nomatch z) h
 |int i=>obtain⟨t,q⟩:=(show∃t,u=Value.int i t from rx);cases q;exact PySem.W.kia_one PySem.W.kitx_int I.kIn True.intro e (fun z=>nomatch z) h
 |str y=>obtain⟨t,q⟩:=(show∃t,u=Value.str y t from rx);cases q;exact PySem.W.kia_one PySem.W.kitx_str I.kIn True.intro e (fun z=>nomatch z) h
 |flt y=>obtain⟨t,q⟩:=(show∃t,u=Value.float y t from rx);cases q;exact PySem.W.kia_one PySem.W.kitx_float I.kIn True.intro e (fun z=>nomatch z) h
 | @lst a xs ea=>
   cases(show u=Value.ref a from rx)
   obtain⟨_,_,n,_,h1⟩:=(show ObjOk X.prog X.w H s.heap a (.lst xs) from I.hok a _ ea)
   exact PySem.W.kia_one PySem.W.kitx_list I.kIn ⟨_,h1,rfl⟩ e (fun z=>nomatch z) h
 | @frz a ob xs ea=>
   cases(show u=Value.ref a from rx)
   obtain⟨_,_,_,n,_,h1⟩:=(show ObjOk X.prog X.w H s.heap a (.frz ob (.lst xs)) from I.hok a _ ea)
   exact PySem.W.kia_one PySem.W.kitx_list I.kIn ⟨_,h1,rfl⟩ e (fun z=>nomatch z) h
 | @tup a xs ea=>
   cases(show u=Value.ref a from rx)
   obtain⟨_,_,_,p⟩:=(show ObjOk X.prog X.w H s.heap a (.tup xs) from I.hok a _ ea)
   obtain⟨o,h1,h2,_⟩:=p
   exact PySem.W.kia_one PySem.W.kitx_tuple I.kIn ⟨o,h1,h2⟩ e (fun z=>nomatch z) h
 | @dK a kvs ea=>
   cases(show u=Value.ref a from rx)
   obtain⟨_,_,vs,_,p⟩:=(show ObjOk X.prog X.w H s.heap a (.dK kvs) from I.hok a _ ea)
   obtain⟨o,es,ep,h1,h2,_⟩:=p
   exact PySem.W.kia_one PySem.W.kitx_dict I.kIn ⟨o,h1,h2.1⟩ e (fun z=>nomatch z) h
 | @dT a kvs ea=>
   cases(show u=Value.ref a from rx)
   obtain⟨_,_,xs,_,o,es,ep,h1,h2,_⟩:=(show ObjOk X.prog X.w H s.heap a (.dT kvs) from I.hok a _ ea)
   exact PySem.W.kia_one PySem.W.kitx_dict I.kIn ⟨o,h1,h2.1⟩ e (fun z=>nomatch z) h
 | @ins a C dx fs ea cl ha hn htk hm=>
   cases(show u=Value.ref a from rx)
   obtain⟨mA,O,_⟩:=B9x I.hok ea
   obtain⟨od,J,_⟩:=O.look
   exact PySem.W.kia_one (PySem.W.kitx_own (cl.get _) cl.hd ha hn htk hm) I.kIn J e (fun z=>nomatch z) h
end
structure Room(k:Nat)(A:Around):Prop where
 hd:A.handled=none
 dp:A.depth+3*k+5<recursionLimit
 un:A.units+16*k+200<cLine
theorem Room.mono{j k:Nat}{A:Around}(r:Room k A)(h:j<=k):Room j A:=⟨r.hd,by have:=r.dp;omega,by have:=r.un;omega⟩
theorem Room.deeper{k:Nat}{A:Around}(r:Room (k+1) A)(env:Env):Room k (A.deeper env):=
 ⟨r.hd,by have:=r.dp;show A.depth+1+3*k+5<_;omega,by have:=r.un;show A.units+3+16*k+200<_;omega⟩
theorem G6u{A:Around}{C:Addr}{us:List Value}{kw:List (Str×Value)}:(A.under (.builtin "type.__call__" ⟨.ref C::us,kw⟩)).depth=A.depth+1:=by
 first|rfl|simp[Around.under,Code.weight,Code.isCreation,Code.isGuard,Code.isCaller,Code.frames,Code.isFrame,guardIds]
theorem G6v{A:Around}{C:Addr}{us:List Value}{kw:List (Str×Value)}:(A.under (.builtin "type.__call__" ⟨.ref C::us,kw⟩)).units=A.units+1:=by
 first|rfl|simp[Around.under,Code.cUnits,Code.frames,Code.isFrame]
theorem Room.make{k:Nat}{A:Around}(r:Room (k+1) A)(C:Addr)(us:List Value)(kw:List (Str×Value)):Room k (A.under (.builtin "type.__call__" ⟨.ref C::us,kw⟩)):=
 ⟨r.hd,by have:=r.dp;rw[G6u];omega,by have:=r.un;rw[G6v];omega⟩
theorem Room.depth{k:Nat}{A:Around}(r:Room k A):A.depth<recursionLimit:=by have:=r.dp;omega
theorem Room.units{k:Nat}{A:Around}(r:Room k A):A.units+64<cLine:=by have:=r.un;omega
noncomputable def U8d:TA:=fun _ H Q=>Q [] H
noncomputable def U6h (ta:TE) (tr:TA):TA:=fun σ H Q=>ta σ H fun x H1=>tr σ H1 fun xs H2=>Q (x::xs) H2
section
variable{X:Cx}{e:Expr}{es:List Expr}{te:TE}{t:TA}{pos:Pos}
theorem A5:PA X [] U8d:=fun _ _ _ _ H Q I h=>Calls.spliced_nil ⟨[],H,I,.nil,h⟩
theorem A0(ha:PE X e te)(hr:PA X es t)(hs:starEach (e::es) X.env=(false,eval e X.env)::starEach es X.env:=by rfl):PA X (e::es) (U6h te t):=by
 intro pos pins s σ H Q I h
 rw[hs]
 show wpAny _ _ (spliced ((false,eval e X.env)::backTo pos (starEach es X.env))) _ _ s
 refine Calls.spliced_cons (thn (ha pins s σ H _ I h) fun u s1 hh_=>?_)
 obtain⟨x,H1,I1,r1,q1⟩:=hh_
 exact thn (hr pos pins s1 σ H1 _ I1 q1) fun us s2 ⟨xs,H2,I2,r2,q2⟩=>⟨x::xs,H2,I2,.cons r1 r2,q2⟩
noncomputable def tTup (t:TA):TE:=fun σ H Q=>t σ H fun xs H1=>xs.length<=sizeLine/\∀p,H1 p=none ->Q (.ref p) (upd H1 p (.tup xs))
noncomputable def Z9p (t:TA):TE:=fun σ H Q=>t σ H fun xs H1=>xs.length<=sizeLine/\∀p,H1 p=none ->Q (.ref p) (upd H1 p (.lst xs))
theorem Y1{x1}(h:PA X es t):PE X (.Tuple es x1 pos) (tTup t):=by
 intro pins s σ H Q I hq
 refine wpAny_Tuple_spliced (thn (h pos pins s σ H _ I hq) fun us s1 ⟨xs,H1,I1,r,z,q⟩=>⟨by rw[<-r.length];exact z,?_⟩)
 have hf:H1 s1.heap.objs.size=none:=I1.hok.fresh (Nat.le_refl _)
 refine⟨.ref s1.heap.objs.size,upd H1 s1.heap.objs.size (.tup xs),I1.laid (t':=s1.toks) (fun b u e=>Heap.get?_push_of_some _ e) (Nat.le_refl _) ?_,rfl,q _ hf⟩
 exact⟨z,us,r,⟨_,Heap.get?_push_size _ rfl,rfl,_,rfl⟩⟩
theorem U5(h:PA X es t):PE X (.List es pos) (Z9p t):=by
 intro pins s σ H Q I hq
 refine wpAny_List_spliced (thn (h pos pins s σ H _ I hq) fun us s1 ⟨xs,H1,I1,r,z,q⟩=>⟨by rw[<-r.length];exact z,?_⟩)
 have hf:H1 s1.heap.objs.size=none:=I1.hok.fresh (Nat.le_refl _)
 refine⟨.ref s1.heap.objs.size,upd H1 s1.heap.objs.size (.lst xs),I1.laid (t':=s1.toks) (fun b u e=>Heap.get?_push_of_some _ e) (Nat.le_refl _) ?_,rfl,q _ hf⟩
 exact⟨z,us,0,r,Heap.get?_push_size _ rfl⟩
end
noncomputable abbrev Sp:=List V ->Hp ->VK ->XK ->Prop
noncomputable abbrev CXT:=List Env ->Hp ->Shared ->XK ->Value ->Shared ->Prop
structure Env0(P:Program)(w:World)(K:PySem.W.Frag)(mg:Str ->Option Value)(base:Heap)(A:Around)(outer:List Env)(s:Shared)(H:Hp):Prop where
 frames:A.frames=some outer
 mod:Mod K mg base
 bs:∀b o,base.get? b=some o ->s.heap.get? b=some o/\H b=none
 bsz:base.objs.size<=s.heap.objs.size
 funs:s.heap.FunFrames base outer
 frf:∀b∈frs outer,H b=none
 hok:HOk P w H s.heap
 bare:AllBare s.gens
noncomputable def CE (outer:List Env) (P:Program) (w:World) (H:Hp) (s:Shared) (Q:VK) (u:Value) (s':Shared):Prop:=
 ∃v H',s'.os=s.os/\AllBare s'.gens/\Un (frs outer) [] H H' s.heap s'.heap/\HOk P w H' s'.heap/\RelV v u/\Q v H'
noncomputable def CR (CX:CXT) (outer:List Env) (P:Program) (w:World) (H:Hp) (s:Shared) (Q:VK) (E:XK) (r:Result) (s':Shared):Prop:=
 match r with
 | .ok (.ret u)=>CE outer P w H s Q u s'
 | .ok _=>False
 | .error e=>CX outer H s E e s'
structure FnOk(P:Program)(w:World)(K:PySem.W.Frag)(mg:Str ->Option Value)(base:Heap)(CX:CXT)(k:Nat)(f:Addr)(fd:FuncData)(ps:List Str)(sp:Sp):Prop where
 len:∀vs H Q E,sp vs H Q E ->vs.length=ps.length
 run:∀(A:Around) (outer:List Env) (s:Shared) (H:Hp) (args:Args) (us:List Value) (vs:List V) (Q:VK) (E:XK),Room k A ->Env0 P w K mg base A outer s H ->BindsTo s fd args (ps.zip us) ->Vals vs us ->sp vs H Q E ->
   codeAny (model P w) A (.call (.ref f) args) (CR CX outer P w H s Q E) s
theorem FnOk.mono{P:Program}{w:World}{K:PySem.W.Frag}{mg:Str ->Option Value}{base:Heap}{CX:CXT}{j k:Nat}{f:Addr}{fd:FuncData}{ps:List Str}{sp:Sp}(F:FnOk P w K mg base CX j f fd ps sp)(h:j<=k):
   FnOk P w K mg base CX k f fd ps sp:=⟨F.len,fun A outer s H args us vs Q E hr=>F.run A outer s H args us vs Q E (hr.mono h)⟩
theorem Env0.make{P:Program}{w:World}{K:PySem.W.Frag}{mg:Str ->Option Value}{base:Heap}{A:Around}{outer:List Env}{s:Shared}{H:Hp}(e:Env0 P w K mg base A outer s H)(C:Addr)(us:List Value)(kw:List (Str×Value)):
   Env0 P w K mg base (A.under (.builtin "type.__call__" ⟨.ref C::us,kw⟩)) outer s H:=⟨by first|exact e.frames|(simpa[Around.under,Code.envs,Code.isFrame,pushEnvs] using e.frames),e.mod,e.bs,e.bsz,e.funs,e.frf,e.hok,e.bare⟩
section
variable{X:Cx}{pins:List (Addr×Obj)}{σ:St}{H:Hp}{s s':Shared}
theorem Inv.env0(I:Inv X pins σ H s):Env0 X.prog X.w X.K X.mg X.base X.A X.stack s H:=
 ⟨I.ok.frames,I.ok.mod,I.bs,Nat.le_trans I.ok.bsz I.sz,I.stack,I.stkFree,I.hok,I.bare⟩
theorem Inv.after{Q:VK}{u:Value}(I:Inv X pins σ H s)(h:CE X.stack X.prog X.w H s Q u s'):EP X pins σ Q u s':=by
 obtain⟨v,H',os,bare,un,hok,r,q⟩:=h
 obtain⟨hh,g,d,t,os'⟩:=s'
 obtain rfl:os'=s.os:=os
 exact⟨v,H',I.call (h':=hh) (g':=g) (d':=d) (t':=t) (ch:=[]) un hok bare (fun b z=>absurd z (by simp)),r,q⟩
end
noncomputable def Z6u (C:Addr) (sp:Sp) (dvs:List V) (E:XK) (t:TA):TE:=fun σ H Q=>t σ H fun vs H1=>∀x dx,H1 x=none ->H1 dx=none ->dx≠x ->
 sp (.ref x::(vs++dvs)) (upd (upd H1 dx (.own x)) x (.ins C dx [])) (fun v H2=>v= .non/\Q (.ref x) H2) E
noncomputable def Binds (K:PySem.W.Frag) (fd:FuncData) (ps:List Str) (ds:List Value):Prop:=
 ∀(s:Shared) (us:List Value),K.In s.heap ->(us++ds).length=ps.length ->BindsTo s fd ⟨us,[]⟩ (ps.zip (us++ds))
theorem Binds.all{K:PySem.W.Frag}{fd:FuncData}{ps:List Str}(h:∀us:List Value,us.length=ps.length ->bindArgs fd ⟨us,[]⟩=pure (ps.zip us)):Binds K fd ps []:=fun s us _ hl=>by
 rw[List.append_nil] at hl ⊢
 exact .of_eq (h us hl)
noncomputable def G7u (CX:CXT) (X:Cx) (E:XK):Prop:=∀(pins:List (Addr×Obj)) (σ:St) (H:Hp) (s:Shared) (e:Value) (s':Shared),Inv X pins σ H s ->CX X.stack H s E e s' ->X.xe e s'
section
variable{X:Cx}{CX:CXT}{k:Nat}{f C:Addr}{fd:FuncData}{ps:List Str}{sp:Sp}{dvs:List V}{ds:List Value}{E:XK}{x m:Str}{p pos apos:Pos}{e o:Expr}{es:List Expr}{ta:TE}{t:TA}
structure Mk(K:PySem.W.Frag)(C f:Addr):Prop where
 makes:PySem.W.makesIn K C=true
 init:PySem.W.findIn K (.ref C) "__init__"=some (some (.ref f))
 fn:PySem.W.isFn K (.ref f)=true
 kp:PySem.W.keepIn K (.ref C)=true
theorem U8q{pins:List (Addr×Obj)}{σ:St}{H:Hp}{s:Shared}{Q:VK}{us:List Value}{vs:List V}(M:Mk X.K C f)(F:FnOk X.prog X.w X.K X.mg X.base CX k f fd ps sp)(hr:Room (k+1) X.A)(hb:Binds X.K fd ps ds)(hd:Vals dvs ds)
   (hx:G7u CX X E) (I:Inv X pins σ H s) (r:Vals vs us)
   (h:∀x dx,H x=none ->H dx=none ->dx≠x ->sp (.ref x::(vs++dvs)) (upd (upd H dx (.own x)) x (.ins C dx [])) (fun v H2=>v= .non/\Q (.ref x) H2) E):
   wpAny (model X.prog X.w) X.A (call (.ref C) us) (EP X pins σ Q) X.xe s:=by
 have hq:=h (s.heap.objs.size+1) s.heap.objs.size (I.hok.fresh (Nat.le_succ _)) (I.hok.fresh (Nat.le_refl _)) (Nat.ne_of_lt (Nat.lt_succ_self _))
 have I2:=Inv.made (C:=C) I
 have r2:Vals (V.ref (s.heap.objs.size+1)::(vs++dvs)) (Value.ref (s.heap.objs.size+1)::(us++ds)):= .cons rfl (r.append hd)
 have hl:(Value.ref (s.heap.objs.size+1)::us++ds).length=ps.length:=by
   have e:=r2.length
   rw[F.len _ _ _ _ hq] at e
   exact e.symm
 refine wpAny_call (G3f (f:=f) I.kIn M.makes M.init (beq_iff_eq.mp M.fn) (codeAny_mono (F.run _ X.stack _ _ ⟨Value.ref (s.heap.objs.size+1)::us,[]⟩ (Value.ref (s.heap.objs.size+1)::(us++ds)) _ _ E (hr.make C us [])
   (I2.env0.make C us []) (hb _ (Value.ref (s.heap.objs.size+1)::us) I2.kIn hl) r2 hq) fun r s' hq'=>?_))
 cases r with
 |error e=>exact hx pins σ _ _ e s' I2 hq'
 | ok fl=>
   cases fl with
   | ret u=>
     obtain⟨v,H',I3,rv,ev,q3⟩:=I2.after hq'
     subst ev
     exact⟨rv,⟨V.ref (s.heap.objs.size+1),H',I3,rfl,q3⟩⟩
   |next=>exact False.elim hq'
   |brk=>exact False.elim hq'
   |cont=>exact False.elim hq'
theorem Y5n(M:Mk X.K C f)(F:FnOk X.prog X.w X.K X.mg X.base CX k f fd ps sp)(hr:Room (k+1) X.A)(hg:Gl X x)(hm:X.mg x=some (.ref C))(hb:Binds X.K fd ps ds)(hd:Vals dvs ds)(hx:G7u CX X E)
   (ha:PA X (e::es) t) (hdb:(x==("__debug__":Str))=false:=by decide) (he:starEach (e::es) X.env=(false,eval e X.env)::starEach es X.env:=by rfl) (hpl:(backTo pos (starEach es X.env)).any (·.1)=false:=by rfl):
   PE X (.Call (.Name x p) (e::es) [] pos) (Z6u C sp dvs E t):=by
 intro pins s σ H Q I h
 refine wpAny_Call_Name_kw (A3b I hg hm ?_ hdb)
 refine PySem.W.callWith_K (h₀:=X.base) I.ok.mod.kin M.kp (thn (ha pos pins s σ H _ I h) fun us s1 ⟨vs,H1,I1,r,q⟩=>⟨I1.kIn,?_⟩) he hpl
 exact U8q M F hr hb hd hx I1 r q
end
section
variable{X:Cx}{CX:CXT}{k:Nat}{f C:Addr}{fd:FuncData}{ps ks:List Str}{sp:Sp}{E:XK}{x m:Str}{p pos apos kpos:Pos}{e o:Expr}{es:List Expr}{kws:List Keyword}{te ta:TE}{t tk:TA}{nm:Option Str}
structure KBinds(K:PySem.W.Frag)(fd:FuncData)(ps ks:List Str)(g:List Value ->List Value ->List Value)(gV:List V ->List V ->List V):Prop where
 to:∀(s:Shared) (us ws:List Value),K.In s.heap ->(g us ws).length=ps.length ->BindsTo s fd ⟨us,ks.zip ws⟩ (ps.zip (g us ws))
 rel:∀{vs:List V} {us:List Value} {zs:List V} {ws:List Value},Vals vs us ->Vals zs ws ->Vals (gV vs zs) (g us ws)
variable{g:List Value ->List Value ->List Value}{gV:List V ->List V ->List V}
end
structure FnScope(N P:List Str)(sc:Scope):Prop where
 kind:sc.kind= .function
 co:sc.isCoroutine=false
 gen:sc.isGenerator=false
 nd:N.Nodup
 pre:N.take P.length=P
 par:∀x∈P,sc.names.lookup x=some .local\/sc.names.lookup x=some .cell
 nofree:∀y∈sc.names,y.2≠ .free
theorem D0d{kindOf:Str ->Option NameKind}{x:Str}:∀{binds:List (Str×Value)} {m:Str ->Option Value},(∀v,(x,v) ∉ binds) ->bindL kindOf binds m x=m x
 | [],_,_=>rfl
 | (n,v)::r,m,h=>by
   unfold bindL
   rw[D0d fun w hw=>h w (List.mem_cons_of_mem _ hw)]
   split
   . have:x≠n:=by rintro rfl;exact h v List.mem_cons_self
     simp[this]
   . rfl
theorem D0v{kindOf:Str ->Option NameKind}{x:Str}:∀{binds:List (Str×Value)} {m:Str ->Option Value},(∀v,(x,v) ∉ binds) ->bindC kindOf binds m x=m x
 | [],_,_=>rfl
 | (n,v)::r,m,h=>by
   unfold bindC
   rw[D0v fun w hw=>h w (List.mem_cons_of_mem _ hw)]
   split
   . rfl
   . have:x≠n:=by rintro rfl;exact h v List.mem_cons_self
     simp[this]
theorem C9z{kindOf:Str ->Option NameKind}{x:Str}{v:Value}:∀{P:List Str} {vs:List Value} {i:Nat} {m:Str ->Option Value},P.Nodup ->P[i]?=some x ->vs[i]?=some v ->kindOf x=some .local ->
   bindL kindOf (P.zip vs) m x=some v
 | [],_,_,_,_,h,_,_=>by simp at h
 |_::_,[],_,_,_,_,h,_=>by simp at h
 | p::P,w::vs,0,m,nd,h1,h2,hk=>by
   simp at h1 h2;subst h1;subst h2
   show bindL kindOf ((p,w)::P.zip vs) m p=_
   unfold bindL
   rw[D0d fun v hv=>(List.nodup_cons.mp nd).1 (List.of_mem_zip hv).1,if_pos hk]
   simp
 | p::P,w::vs,i+1,m,nd,h1,h2,hk=>by
   show bindL kindOf ((p,w)::P.zip vs) m x=_
   unfold bindL
   exact C9z (i:=i) (List.nodup_cons.mp nd).2 (by simpa using h1) (by simpa using h2) hk
theorem C9w{kindOf:Str ->Option NameKind}{x:Str}{v:Value}:∀{P:List Str} {vs:List Value} {i:Nat} {m:Str ->Option Value},P.Nodup ->P[i]?=some x ->vs[i]?=some v ->kindOf x≠some .local ->
   bindC kindOf (P.zip vs) m x=some v
 | [],_,_,_,_,h,_,_=>by simp at h
 |_::_,[],_,_,_,_,h,_=>by simp at h
 | p::P,w::vs,0,m,nd,h1,h2,hk=>by
   simp at h1 h2;subst h1;subst h2
   show bindC kindOf ((p,w)::P.zip vs) m p=_
   unfold bindC
   rw[D0v fun v hv=>(List.nodup_cons.mp nd).1 (List.of_mem_zip hv).1,if_neg hk]
   simp
 | p::P,w::vs,i+1,m,nd,h1,h2,hk=>by
   show bindC kindOf ((p,w)::P.zip vs) m x=_
   unfold bindC
   exact C9w (i:=i) (List.nodup_cons.mp nd).2 (by simpa using h1) (by simpa using h2) hk
noncomputable def B2h (N:List Str) (vs:List V):St:=vs.map some++List.replicate (N.length-vs.length) none
noncomputable def A0a (CX:CXT) (P:Program) (w:World) (K:PySem.W.Frag) (mg:Str ->Option Value) (base:Heap) (N:List Str) (qual:Str) (scope:Scope) (f:Addr) (cd:Value) (A:Around) (outer:List Env) (s:Shared) (H:Hp) (E:XK):Cx where
 prog:=P
 w:=w
 K:=K
 mg:=mg
 base:=base
 A:=A.deeper (envOfC qual scope s.heap.objs.size f cd)
 N:=N
 s₀:=s
 H₀:=H
 env:=envOfC qual scope s.heap.objs.size f cd
 outer:=outer
 stack:=envOfC qual scope s.heap.objs.size f cd::outer
 ex:=[]
 calm:=true
 fn:=fun _=>true
 pn:=[]
 xe:=fun e s'=>wpAny (model P w) (A.deeper (envOfC qual scope s.heap.objs.size f cd)) (leaving (envOfC qual scope s.heap.objs.size f cd) e) (fun _ s''=>CX outer H s E e s'') (fun e' s''=>CX outer H s E e' s'') s'
theorem G2j{sc:Scope}{n:Nat}{x:Str}(h:sc.names.lookup x=some .cell):∃c,(cellsFrom n sc.names []).lookup x=some c:=by
 have q:=PySem.W.cellsFrom_some sc.names n [] (.inl h)
 exact Option.isSome_iff_exists.mp q
theorem J9w{CX:CXT}{P:Program}{w:World}{K:PySem.W.Frag}{mg:Str ->Option Value}{base:Heap}{N ps:List Str}{qual:Str}{scope:Scope}{f:Addr}{cd:Value}{A:Around}{outer:List Env}{s s1:Shared}{H:Hp}{E:XK}{us:List Value}{vs:List V}
   (S:FnScope N ps scope) (hd:A.handled=none) (e0:Env0 P w K mg base A outer s H) (hl:vs.length=ps.length) (r:Vals vs us)
   (x:InCallC s s.heap.objs.size (bindL (envOfC qual scope s.heap.objs.size f cd).kindOf (ps.zip us) fun _=>none) (cellsFrom (s.heap.objs.size+1) scope.names []) (bindC (envOfC qual scope s.heap.objs.size f cd).kindOf (ps.zip us) fun _=>none) s1):
   Inv (A0a CX P w K mg base N qual scope f cd A outer s H E) [] (B2h N vs) H s1:=by
 have hpl:ps.length<=N.length:=by have:=congrArg List.length S.pre;rw[List.length_take] at this;omega
 obtain⟨h1,tk,rfl,hk⟩:=x.done
 have noA:∀b:Addr,b ∉ (A0a CX P w K mg base N qual scope f cd A outer s H E).ex:=fun b z=>absurd (show b∈([]:List Addr) from z) (by simp)
 refine⟨⟨e0.mod,S.kind,rfl,rfl,Nat.le_refl _,fun y z c h1 h2=>?_,fun y hy=>?_,fun y c _ h=>?_,fun _=>hd,Around.frames_deeper e0.frames,.inr ⟨rfl,rfl⟩,fun b z=>absurd z (noA b),e0.bs,e0.bsz,fun b _ _=>noA b,fun b z=>absurd z (noA b),e0.funs,e0.frf⟩,
   rfl,e0.bare,Un.kept hk,⟨_,x.toInCall.ns,fun i y v h1 h2 h3=>?_⟩,fun y c h=>⟨_,x.cell y c h⟩,e0.hok.fresh (Nat.le_refl _),fun y c h=>?_,fun p hp=>absurd (show p∈([]:List (Addr×Obj)) from hp) (by simp),e0.hok.kept hk,?_⟩
 . exact name_of_addr x.apart (PySem.mem_of_lookup h1) (PySem.mem_of_lookup h2)
 . have hy:scope.names.lookup y=some .cell\/scope.names.lookup y=some .free:=hy
   rcases hy with hy|hy
   . exact G2j hy
   . exact absurd rfl (S.nofree _ (PySem.mem_of_lookup hy))
 . exact Nat.le_of_lt (x.above y c (PySem.mem_of_lookup h))
 . have hi:i<vs.length:=by
     unfold B2h at h2
     by_cases hi:i<vs.length
     . exact hi
     . rw[List.getElem?_append_right (by simpa using hi)] at h2
       rw[List.getElem?_replicate] at h2
       split at h2<;>cases h2
   have ha:vs[i]?=some v:=by
     unfold B2h at h2
     rw[List.getElem?_append_left (by simpa using hi),List.getElem?_map] at h2
     cases e:vs[i]? with
     |none=>rw[e] at h2;cases h2
     |some a=>rw[e] at h2;cases h2;rfl
   obtain⟨u,hu,rv⟩:=r.get ha
   have hp:ps[i]?=some y:=by
     rw[<-S.pre,List.getElem?_take_of_lt (by omega)];exact h1
   have ndP:ps.Nodup:=by rw[<-S.pre];exact S.nd.sublist (List.take_sublist _ _)
   refine⟨u,rv,?_⟩
   rcases S.par y (List.mem_of_getElem? hp) with k|k
   . exact .inl ⟨k,C9z ndP hp hu k⟩
   . obtain⟨c,e⟩:=G2j (n:=s.heap.objs.size+1) k
     refine .inr ⟨.inl k,c,e,?_⟩
     have q:=x.cell y c e
     rw[C9w ndP hp hu (by show scope.names.lookup y≠_;rw[k];decide)] at q
     exact q
 . exact e0.hok.fresh (Nat.le_of_lt (x.above y c (PySem.mem_of_lookup h)))
 . unfold B2h
   show _=N.length
   rw[List.length_append,List.length_map,List.length_replicate]
   omega
theorem U7n{CX:CXT}{P:Program}{w:World}{K:PySem.W.Frag}{mg:Str ->Option Value}{base:Heap}{k:Nat}{f:Addr}{name qual:Str}{params:Arguments}{body:List Stmt}{scope:Scope}{dV kV doc pm cdv ct oc:Value}{an od:Option Addr}
   {osl:Array (Option Value)} {N ps:List Str} {sp:Sp} (lk:K.lookup f=some ⟨oc,od,.func (PySem.W.fnOf name qual params body scope dV kV doc pm an cdv ct),osl⟩) (hcd:PySem.W.codeIn K cdv qual=true) (S:FnScope N ps scope)
   (len:∀vs H Q E,sp vs H Q E ->vs.length=ps.length)
   (hbody:∀(A:Around) (outer:List Env) (s:Shared) (H:Hp) (vs:List V) (Q:VK) (E:XK),Room k (A.deeper (envOfC qual scope s.heap.objs.size f cdv)) ->sp vs H Q E ->
     ∃t,PSs (A0a CX P w K mg base N qual scope f cdv A outer s H E) body t/\t {nx:=fun _ H'=>Q .non H',rt:=Q} (B2h N vs) H):
   FnOk P w K mg base CX (k+1) f (PySem.W.fnOf name qual params body scope dV kV doc pm an cdv ct) ps sp:=by
 refine⟨len,fun A outer s H args us vs Q E hr e0 hb r hsp=>?_⟩
 have hl:=len _ _ _ _ hsp
 have KX:K.In s.heap:=e0.mod.kin.keeps fun b o e=>(e0.bs b o e).1
 have lim:s.heap.NoLimit:=e0.mod.nolimit.keeps fun b o e=>(e0.bs b o e).1
 have hkind:∀y∈ps.zip us,scope.names.lookup y.1=some .local\/(scope.names.lookup y.1=some .cell/\((cellsFrom (s.heap.objs.size+1) scope.names []).lookup y.1).isSome=true):=fun⟨n,v⟩ hy=>by
   rcases S.par n (List.of_mem_zip hy).1 with q|q
   . exact .inl q
   . exact .inr ⟨q,PySem.W.cellsFrom_some _ _ _ (.inl q)⟩
 refine codeAny_call_function hr.depth (KX _ _ lk) rfl S.co S.gen rfl (PySem.W.codeRec_of KX hcd) (hb _ _ _ _ ?_)
 refine wpAny_newFunctionEnv_cells S.kind hkind fun env he s1 x=>?_
 subst he
 refine⟨lim.keeps x.toInCall.keep,codeAny_func ?_⟩
 obtain⟨t,ht,hq⟩:=hbody A outer s H vs Q E (hr.deeper _) hsp
 have I:Inv (A0a CX P w K mg base N qual scope f cdv A outer s H E) [] (B2h N vs) H s1:=J9w S hr.hd e0 hl r x
 refine wpAny_mono (ht [] s1 (B2h N vs) H _ I hq) (fun fl s' hs=>?_) fun e s' hs=>hs
 have fin:∀{σ':St} {H':Hp} {v:V} {u:Value},Inv (A0a CX P w K mg base N qual scope f cdv A outer s H E) [] σ' H' s' ->RelV v u ->Q v H' ->CE outer P w H s Q u s':=
   fun{σ' H' v u} J rv q=>⟨v,H',J.os,J.bare,J.base,J.hok,rv,q⟩
 cases fl with
 | ret u=>
   obtain⟨v,σ',H',J,rv,q⟩:=hs
   exact fin J rv q
 | next=>
   obtain⟨σ',H',J,q⟩:=hs
   exact fin (v:=V.non) (u:=Value.none) J rfl q
 | brk=>
   obtain⟨_,_,_,q⟩:=hs
   exact False.elim q
 | cont=>
   obtain⟨_,_,_,q⟩:=hs
   exact False.elim q
section
variable{X:Cx}{x:Str}{p pos:Pos}{e:Expr}{es:List Expr}{t:TA}{id T:String}{r:List V ->Hp ->VK ->Prop}
noncomputable def tCB (r:List V ->Hp ->VK ->Prop) (t:TA):TE:=fun σ H Q=>t σ H fun vs H1=>r vs H1 Q
theorem J2(hc:A7z X (.builtin id) r)(hg:Gl X x)(hm:X.mg x=none)(hv:bootBuiltins x=some (.builtin id))(ha:PA X (e::es) t)(hn:x≠"__name__":=by decide)(hdb:(x==("__debug__":Str))=false:=by decide)
   (he:starEach (e::es) X.env=(false,eval e X.env)::starEach es X.env:=by rfl) (hpl:(backTo pos (starEach es X.env)).any (·.1)=false:=by rfl):PE X (.Call (.Name x p) (e::es) [] pos) (tCB r t):=by
 intro pins s σ H Q I h
 refine wpAny_Call_Name_kw (C1w I hg hm hv ?_ hn hdb)
 exact PyProof.Rows.callWith_builtin1 (thn (ha pos pins s σ H _ I h) fun us s1 ⟨vs,H1,I1,r1,q1⟩=>hc pins s1 σ H1 vs us Q I1 r1 q1) he hpl
theorem J8(hc:A7z X (.type T) r)(hg:Gl X x)(hm:X.mg x=none)(hv:bootBuiltins x=some (.type T))(ha:PA X (e::es) t)(hn:x≠"__name__":=by decide)(hdb:(x==("__debug__":Str))=false:=by decide)
   (he:starEach (e::es) X.env=(false,eval e X.env)::starEach es X.env:=by rfl) (hpl:(backTo pos (starEach es X.env)).any (·.1)=false:=by rfl):PE X (.Call (.Name x p) (e::es) [] pos) (tCB r t):=by
 intro pins s σ H Q I h
 refine wpAny_Call_Name_kw (C1w I hg hm hv ?_ hn hdb)
 exact PyProof.Rows.callWith_type1 (thn (ha pos pins s σ H _ I h) fun us s1 ⟨vs,H1,I1,r1,q1⟩=>hc pins s1 σ H1 vs us Q I1 r1 q1) he hpl
end
end L2
namespace HT
open PySem PyProof.Rows
section
open PySem.SeqAt
open PySem.AutoSeq1 (wpAny_loadPart')
open PySem.MeetsSeq PySem.MeetsSeq2 PySem.MeetsSeq3
end
section
variable{prog:Program}{w:World}{A:Around}{E:Value ->Shared ->Prop}{s:Shared}
theorem cat_tup{t b:Addr}{vs ws:List Value}{Q:Value ->Shared ->Prop}(ht:IsTup s.heap t vs.toArray)(hb:IsTup s.heap b ws.toArray)(hv:vs≠ [])
   (h1:ws=[] ->Q (.ref t) s) (h2:ws≠ [] ->Q (.ref s.heap.objs.size) {s with heap:=s.heap.push {cls:= .type "tuple",data:= .seq (vs++ws).toArray}})
   (hsz:vs.length+ws.length<=sizeLine):wpAny (model prog w) A (binaryOp .Add (.ref t) (.ref b)) Q E s:=by
 obtain⟨⟨cls,dd,data,sl⟩,ho,hc,n,hd⟩:=id ht
 obtain⟨⟨cls2,dd2,data2,sl2⟩,ho2,hc2,n2,hd2⟩:=id hb
 simp only at hc hd hc2 hd2
 subst hc hd hc2 hd2
 have e:vs.toArray++ws.toArray=(vs++ws).toArray:=by simp
 by_cases hw:ws=[]
 . exact concat_meets ⟨_,ho,rfl⟩ ⟨_,ho2,rfl⟩ noFill_tuple_add seq_tuple_add PySem.F.slot_tuple_add PySem.F.entry_tuple_add (PySem.F.args_tuple_add_2 _ _)
     (tuple_addW1 t b vs.toArray ws.toArray n n2 dd dd2 sl sl2 (by simpa using hv) (by simp[hw])) ⟨ho,ho2,h1 hw⟩
 . refine concat_meets ⟨_,ho,rfl⟩ ⟨_,ho2,rfl⟩ noFill_tuple_add seq_tuple_add PySem.F.slot_tuple_add PySem.F.entry_tuple_add (PySem.F.args_tuple_add_2 _ _)
     (tuple_addW2 t b vs.toArray ws.toArray n n2 dd dd2 sl sl2 (by simpa using hv) (by simpa using hw) (by rw[List.size_toArray,List.size_toArray];exact hsz)) ⟨ho,ho2,?_⟩
   rw[e]
   exact h2 hw
noncomputable def sIx (n d:Nat):Option Int ->Nat
 |none=>d
 |some v=>if v<0 then(v+(n:Int)).toNat else min v.toNat n
theorem Z0j(n d:Nat)(hd:d<=n)(o:Option Int):sIx n d o<=n:=by
 cases o with
 |none=>exact hd
 | some v=>
   show(if v<0 then(v+(n:Int)).toNat else min v.toNat n)<=n
   by_cases hv:v<0
   . rw[if_pos hv];omega
   . rw[if_neg hv];exact Nat.min_le_right _ _
theorem J7c(v:Int)(n d:Nat):(if v<0 then max (v+(n:Int)) 0 else min v (n:Int))=((sIx n d (some v):Nat):Int):=by
 show(if v<0 then max (v+(n:Int)) 0 else min v (n:Int))=(((if v<0 then(v+(n:Int)).toNat else min v.toNat n):Nat):Int)
 by_cases hv:v<0
 . simp only[if_pos hv];omega
 . simp only[if_neg hv];omega
theorem G8w(lo hi:Option Int)(n:Nat):Builtin.Slice.sliceAdjust lo hi 1 (n:Int)=(((sIx n 0 lo:Nat):Int),((sIx n n hi:Nat):Int)):=by
 have h1:¬((1:Int)<0):=by omega
 unfold Builtin.Slice.sliceAdjust
 simp only[h1,if_false]
 refine Prod.ext ?_ ?_
 . cases lo with
   |none=>rfl
   |some v=>exact J7c v n 0
 . cases hi with
   |none=>rfl
   |some v=>exact J7c v n n
theorem G7e(i j:Nat):Builtin.Slice.slicePlaces (i:Int) (j:Int) 1=j-i:=by
 unfold Builtin.Slice.slicePlaces
 have h1:(1:Int)>0:=by omega
 simp only[h1,if_true,Int.ediv_one]
 split<;>omega
theorem C1q{v:Value}{o:Option Int}{Q:Option Int ->Shared ->Prop}(p:IsPart v o)(h:Q o s):wpAny (model prog w) A (Builtin.Slice.slicePartIndex v) Q E s:=by
 cases p with
 |none=>exact slicePart_none h
 |int i t=>exact slicePart_int h
theorem B5n{sl:Addr}{vl vu:Value}{lo hi:Option Int}{n:Nat}{Q:Int×Int×Nat ->Shared ->Prop}(hs:s.heap.IsSliceOf sl vl vu .none)(pl:IsPart vl lo)(pu:IsPart vu hi)
   (h:Q (((sIx n 0 lo:Nat):Int),1,sIx n n hi-sIx n 0 lo) s):wpAny (model prog w) A (Builtin.Slice.sliceApplied (.ref sl) (pure (n:Int))) Q E s:=by
 obtain⟨os,hos,hcs,hds⟩:=id hs
 unfold Builtin.Slice.sliceApplied Builtin.Slice.sliceFields
 refine wpAny_bind (wpAny_bind (wpAny_field hos hds (x:=vl) rfl (wpAny_bind (wpAny_field hos hds (x:=vu) rfl (wpAny_bind (wpAny_field hos hds (x:= .none) rfl (wpAny_pure ?_)))))))
 refine wpAny_bind (slicePart_none ?_)
 show wpAny _ _ (if((1:Int)==0)=true then _ else _) _ _ s
 rw[if_neg (by decide)]
 refine wpAny_bind (C1q pl (wpAny_bind (C1q pu (wpAny_bind (wpAny_pure ?_)))))
 show wpAny _ _ (match Builtin.Slice.sliceAdjust lo hi 1 (n:Int) with|(lo,hi)=>pure (lo,(1:Int),Builtin.Slice.slicePlaces lo hi 1)) _ _ s
 rw[G8w lo hi n]
 show wpAny _ _ (pure (((sIx n 0 lo:Nat):Int),(1:Int),Builtin.Slice.slicePlaces ((sIx n 0 lo:Nat):Int) ((sIx n n hi:Nat):Int) 1)) _ _ s
 rw[G7e]
 exact wpAny_pure h
theorem U6z(xs:Array Value)(i k:Nat):((List.range k).filterMap fun(m:Nat)=>xs[((i:Int)+(m:Int)*1).toNat]?).toArray=((xs.toList.drop i).take k).toArray:=by
 have e:(fun(m:Nat)=>xs[((i:Int)+(m:Int)*1).toNat]?)=fun m=>xs[i+m]?:=by
   funext m
   have:((i:Int)+(m:Int)*1).toNat=i+m:=by omega
   rw[this]
 rw[e]
 have:=pick_run xs i k
 rw[List.filterMap_map] at this
 have e2:((fun x=>xs[x]?)∘fun x=>i+x)=fun m=>xs[i+m]?:=rfl
 rw[e2] at this
 rw[this]
theorem getItem_tuple_cut{t sl:Addr}{items:Array Value}{vl vu:Value}{lo hi:Option Int}{Q:Value ->Shared ->Prop}(ht:IsTup s.heap t items)(hs:s.heap.IsSliceOf sl vl vu .none)(pl:IsPart vl lo)(pu:IsPart vu hi)
   (hw:¬(sIx items.size 0 lo=0/\sIx items.size items.size hi=items.size))
   (h:Q (.ref s.heap.objs.size) {s with heap:=s.heap.push {cls:= .type "tuple",data:= .seq ((items.toList.drop (sIx items.size 0 lo)).take (sIx items.size items.size hi-sIx items.size 0 lo)).toArray}})
   (hsz:items.size<=sizeLine):wpAny (model prog w) A (getItem (.ref t) (.ref sl)) Q E s:=by
 have htake:sizeOk (.seq ((items.toList.drop (sIx items.size 0 lo)).take (sIx items.size items.size hi-sIx items.size 0 lo)).toArray):=by
   show((items.toList.drop (sIx items.size 0 lo)).take (sIx items.size items.size hi-sIx items.size 0 lo)).toArray.size<=sizeLine
   rw[List.size_toArray,List.length_take,List.length_drop,Array.length_toList]
   omega
 have hj:sIx items.size items.size hi<=items.size:=Z0j _ _ (Nat.le_refl _) hi
 obtain⟨os,hos,hcs,hds⟩:=id hs
 have hTs:s.TypeIs (.ref sl) "slice":=⟨os,hos,hcs⟩
 unfold getItem
 try with_reducible refine wpAny_holding ?_
 first|refine wpAny_bind (wpAny_pure ?_)|skip
 refine wpAny_bind (wpAny_sequenceKey ht.typeIs (by decide) ?_)
 refine wpAny_bind (wpAny_callSpecial?_slot (name:=Str.ofString "__getitem__") ht.typeIs PyProof.Rows.slot_tuple_getitem
   (wpAny_call_entry PyProof.Rows.slot_tuple_getitem ht.typeIs entry_tuple_getitem ?_ (args_tuple_getitem _ _)))
 show wpAny _ _ (Builtin.Tuple.tupleItemsOf (.ref t)>>=_) _ _ s
 refine wpAny_bind (tupleItemsOf_ ht ?_)
 refine wpAny_bind (wpAny_typeOf hTs ?_)
 rw[if_pos (by decide)]
 refine wpAny_bind (B5n hs pl pu ?_)
 have hno:¬((((sIx items.size 0 lo:Nat):Int)==0&&(1:Int)==1&&(sIx items.size items.size hi-sIx items.size 0 lo)==items.size)=true):=by
   intro q
   rw[Bool.and_eq_true,Bool.and_eq_true] at q
   have q1:((sIx items.size 0 lo:Nat):Int)=0:=eq_of_beq q.1.1
   have q2:sIx items.size items.size hi-sIx items.size 0 lo=items.size:=eq_of_beq q.2
   exact hw ⟨by omega,by omega⟩
 show wpAny _ _ (if(((sIx items.size 0 lo:Nat):Int)==0&&(1:Int)==1&&(sIx items.size items.size hi-sIx items.size 0 lo)==items.size)=true then _ else _) _ _ s
 rw[if_neg hno,U6z]
 first
   |exact wpAny_bind (m:=Builtin.Tuple.tupleExact _) (wpAny_newObj_type (wpAny_pure ⟨_,rfl,wpAny_pure h⟩) htake)
   |exact wpAny_bind (m:=Builtin.Tuple.tupleExact _) (wpAny_newObj_type (wpAny_bind (wpAny_pure (wpAny_pure ⟨_,rfl,wpAny_pure h⟩))) htake)
   |exact wpAny_bind (wpAny_bind (m:=Builtin.Tuple.tupleExact _) (wpAny_newObj_type (wpAny_pure (wpAny_pure ⟨_,rfl,wpAny_pure h⟩)) htake))
   |exact wpAny_bind (wpAny_bind (m:=Builtin.Tuple.tupleExact _) (wpAny_newObj_type (wpAny_pure ⟨_,rfl,wpAny_pure h⟩) htake))
end
end HT
namespace L2
open PySem PySem.Spec PyProof.Rows
noncomputable abbrev TO:=St ->Hp ->(Option Int ->Hp ->Prop) ->Prop
noncomputable def PO (X:Cx) (e:Option Expr) (t:TO):Prop:=
 ∀ (pins:List (Addr×Obj)) (s:Shared) (σ:St) (H:Hp) (Q:Option Int ->Hp ->Prop),Inv X pins σ H s ->t σ H Q ->
   wpAny (model X.prog X.w) X.A (evalPart e X.env) (fun u s'=>∃o H',Inv X pins σ H' s'/\IsPart u o/\Q o H') X.xe s
noncomputable def Y5a:TO:=fun _ H Q=>Q none H
noncomputable def Z7c (t:TE):TO:=fun σ H Q=>t σ H fun x H1=>∃i,x= .int i/\Q (some i) H1
section
variable{X:Cx}{e:Expr}{te:TE}{lo hi:Option Expr}{tl th:TO}{pos p2:Pos}
theorem J7n:PO X none Y5a:=by
 intro pins s σ H Q I h
 rw[evalPart_none]
 exact wpAny_pure ⟨none,H,I,.none,h⟩
theorem J7b(h:PE X e te):PO X (some e) (Z7c te):=by
 intro pins s σ H Q I hw
 rw[evalPart_some]
 refine thn (h pins s σ H _ I hw) fun u s1 hh_=>?_
 obtain⟨x,H1,I1,r1,q1⟩:=hh_
 obtain⟨i,rfl,q⟩:=q1
 obtain⟨t,rfl⟩:=r1
 exact⟨some i,H1,I1,.int i t,q⟩
noncomputable def SlR (X:Cx) (r:V ->Option Int ->Option Int ->Hp ->VK ->Prop):Prop:=
 ∀ (pins:List (Addr×Obj)) (s:Shared) (σ:St) (H:Hp) (x:V) (v vl vu:Value) (lo hi:Option Int) (sl:Addr) (Q:VK),Inv X pins σ H s ->RelV x v ->s.heap.IsSliceOf sl vl vu .none ->IsPart vl lo ->IsPart vu hi ->r x lo hi H Q ->
   ∃T id,typeLookup (.type T) "__getitem__"=pure (some (.builtin id))/\s.TypeIs v T/\wpAny (model X.prog X.w) X.A (getItem v (.ref sl)) (EP X pins σ Q) X.xe s
noncomputable def tSl (r:V ->Option Int ->Option Int ->Hp ->VK ->Prop) (te:TE) (tl th:TO):TE:=fun σ H Q=>te σ H fun x H1=>tl σ H1 fun l H2=>th σ H2 fun u H3=>r x l u H3 Q
theorem G1w{r:V ->Option Int ->Option Int ->Hp ->VK ->Prop}(hr:SlR X r)(he:PE X e te)(hl:PO X lo tl)(hu:PO X hi th):PE X (.Subscript e (.Slice lo hi none p2) pos) (tSl r te tl th):=by
 intro pins s σ H Q I h
 refine Subscript_ (thn (he pins s σ H _ I h) fun v s1 hh_=>?_)
 obtain⟨x,H1,I1,r1,q1⟩:=hh_
 refine wpAny_Slice (thn (hl pins s1 σ H1 _ I1 q1) fun vl s2 ⟨l,H2,I2,pl,q2⟩=>thn (hu pins s2 σ H2 _ I2 q2) fun vu s3 hh_=>?_)
 obtain⟨u,H3,I3,pu,q3⟩:=hh_
 rw[evalPart_none]
 refine wpAny_pure ?_
 have I4:Inv X pins σ H3 {s3 with heap:=s3.heap.push {cls:= .type "slice",data:= .fields #[vl,vu,.none]}}:=I3.kept (t':=s3.toks) fun b ob q=>Heap.get?_push_of_some _ q
 obtain⟨T,id,hT,ht,hg⟩:=hr pins {s3 with heap:=s3.heap.push {cls:= .type "slice",data:= .fields #[vl,vu,.none]}} σ H3 x v vl vu l u s3.heap.objs.size Q I4 r1 (Heap.IsSliceOf.new ..) pl pu q3
 show wpAny (model X.prog X.w) X.A (subscriptTail e (.Slice lo hi none p2) v (.ref s3.heap.objs.size)) (EP X pins σ Q) X.xe {s3 with heap:=s3.heap.push {cls:= .type "slice",data:= .fields #[vl,vu,.none]}}
 exact tail_any (ops:=[.ref s3.heap.objs.size,v]) ht hT hg (by with_unfolding_all rfl)
noncomputable def B2c (xs:List V) (lo hi:Option Int):List V:=(xs.drop (HT.sIx xs.length 0 lo)).take (HT.sIx xs.length xs.length hi-HT.sIx xs.length 0 lo)
theorem G2p(xs:List V)(lo hi:Option Int):(B2c xs lo hi).length<=xs.length:=by
 unfold B2c
 rw[List.length_take,List.length_drop]
 omega
noncomputable def rSlT (K:PySem.W.Frag):V ->Option Int ->Option Int ->Hp ->VK ->Prop:=fun x lo hi H Q=>∃a xs,x= .ref a/\SqT K H a xs/\
 ¬(HT.sIx xs.length 0 lo=0/\HT.sIx xs.length xs.length hi=xs.length)/\∀p,H p=none ->Q (.ref p) (upd H p (.tup (B2c xs lo hi)))
theorem U7m:SlR X (rSlT X.K):=by
 intro pins s σ H x v vl vu lo hi sl Q I rx hs pl pu h
 obtain⟨a,xs,rfl,hx,hw,q⟩:=h
 cases rx
 obtain⟨its,r,ht,hz⟩:=I.tuple hx
 have hlen:its.toArray.size=xs.length:=by rw[List.size_toArray];exact r.length.symm
 refine⟨"tuple",_,PyProof.Rows.slot_tuple_getitem.lookup,ht.typeIs,?_⟩
 refine HT.getItem_tuple_cut ht hs pl pu (by rw[hlen];exact hw) ?_ (by rw[hlen];exact hz)
 rw[hlen]
 refine⟨.ref s.heap.objs.size,_,I.laid (t':=s.toks) (o:= .tup (B2c xs lo hi)) (fun b ob q=>Heap.get?_push_of_some _ q) (Nat.le_refl _) ?_,rfl,q _ (I.hok.fresh (Nat.le_refl _))⟩
 exact⟨Nat.le_trans (G2p xs lo hi) hz,_,(r.drop (HT.sIx xs.length 0 lo)).take (HT.sIx xs.length xs.length hi-HT.sIx xs.length 0 lo),IsTup.new _ _⟩
noncomputable def Z5u (K:PySem.W.Frag):R2:=fun x y H Q=>∃a b xs ys,x= .ref a/\y= .ref b/\SqT K H a xs/\SqT K H b ys/\xs≠ []/\xs.length+ys.length<=sizeLine/\
 (ys=[] ->Q (.ref a) H)/\(ys≠ [] ->∀p,H p=none ->Q (.ref p) (upd H p (.tup (xs++ys))))
theorem Vals.nil_iff{xs:List V}{us:List Value}(r:Vals xs us):us=[]↔xs=[]:=by
 cases r with
 |nil=>simp
 |cons _ _=>simp
theorem J6c:OpR X (binaryOp .Add) (Z5u X.K):=by
 intro pins s σ H x y v u Q I rx ry h
 obtain⟨a,b,xs,ys,rfl,rfl,ha,hb,hx,hz,q1,q2⟩:=h
 cases rx
 cases ry
 obtain⟨its,r1,p1,_⟩:=I.tuple ha
 obtain⟨its2,r2,p2,_⟩:=I.tuple hb
 refine HT.cat_tup p1 p2 (fun z=>hx (r1.nil_iff.mp z)) (fun z=>⟨.ref a,H,I,rfl,q1 (r2.nil_iff.mp z)⟩) (fun z=>?_) (by rw[<-r1.length, <-r2.length];exact hz)
 refine⟨.ref s.heap.objs.size,_,I.laid (t':=s.toks) (o:= .tup (xs++ys)) (fun b ob q=>Heap.get?_push_of_some _ q) (Nat.le_refl _) ?_,rfl,q2 (fun w=>z (r2.nil_iff.mpr w)) _ (I.hok.fresh (Nat.le_refl _))⟩
 exact⟨by rw[List.length_append];exact hz,_,r1.append r2,IsTup.new _ _⟩
end
noncomputable def ixN (n:Nat) (i:Int):Option Nat:=if 0<=i then(if i<n then some i.toNat else none) else if -(n:Int)<=i then some (i+n).toNat else none
noncomputable def atI {α:Type} (xs:List α) (i:Int):Option α:=(ixN xs.length i).bind fun j=>xs[j]?
theorem Y4v{n:Nat}{i:Int}{j:Nat}(h:ixN n i=some j):seqIndex? i n=some j/\j<n/\ -(n:Int)<=i/\i<n:=by
 unfold ixN at h
 by_cases h0:0<=i
 . rw[if_pos h0] at h
   by_cases h1:i<n
   . rw[if_pos h1] at h
     have e:i.toNat=j:=Option.some.inj h
     exact⟨by rw[seqIndex_of h0 h1,e],by omega,by omega,h1⟩
   . rw[if_neg h1] at h;cases h
 . rw[if_neg h0] at h
   by_cases h1: -(n:Int)<=i
   . rw[if_pos h1] at h
     have e:(i+n).toNat=j:=Option.some.inj h
     exact⟨by rw[seqIndex_neg (by omega) h1,e],by omega,h1,by omega⟩
   . rw[if_neg h1] at h;cases h
theorem D2r{α:Type}{xs:List α}{i:Int}{v:α}(h:atI xs i=some v):∃j,seqIndex? i xs.length=some j/\xs[j]?=some v/\j<xs.length/\ -(xs.length:Int)<=i/\i<xs.length:=by
 unfold atI at h
 cases e:ixN xs.length i with
 |none=>rw[e] at h;cases h
 | some j=>
   rw[e] at h
   obtain⟨h1,h2,h3,h4⟩:=Y4v e
   exact⟨j,h1,h,h2,h3,h4⟩
theorem C0{α:Type}{xs:List α}{j:Nat}{v:α}(h:xs[j]?=some v):atI xs (j:Int)=some v:=by
 have hj:j<xs.length:=(List.getElem?_eq_some_iff.mp h).1
 have e:ixN xs.length (j:Int)=some j:=by
   unfold ixN
   rw[if_pos (by omega),if_pos (by omega)];simp
 unfold atI;rw[e];exact h
noncomputable def Y3y (b:Expr):Prop:=∀o i,subscripted b false o i=operate [o,i] (getItem o i)
noncomputable def IxR (X:Cx) (r:R2):Prop:=
 ∀ (value slice:Expr) (pins:List (Addr×Obj)) (s:Shared) (σ:St) (H:Hp) (x y:V) (v u:Value) (Q:VK),Inv X pins σ H s ->RelV x v ->RelV y u ->r x y H Q ->
   subscripted slice false v u=operate [v,u] (getItem v u) ->wpAny (model X.prog X.w) X.A (subscriptTail value slice v u) (EP X pins σ Q) X.xe s
noncomputable def MtR (X:Cx) (id:String) (r:V ->List V ->Hp ->VK ->Prop):Prop:=
 ∀ (pins:List (Addr×Obj)) (s:Shared) (σ:St) (H:Hp) (x:V) (xs:List V) (v:Value) (us:List Value) (Q:VK),Inv X pins σ H s ->RelV x v ->Vals xs us ->r x xs H Q ->
   wpAny (model X.prog X.w) X.A (call (.builtin id) (v::us)) (EP X pins σ Q) X.xe s
section
variable{X:Cx}{a b:Expr}{ta tb:TE}{pos:Pos}
theorem G7{r:R2}(hr:IxR X r)(ha:PE X a ta)(hb:PE X b tb)(hs:Y3y b):PE X (.Subscript a b pos) (tOp r ta tb):=by
 intro pins s σ H Q I h
 exact Subscript_ (Z1d ha hb I h fun v u s2 x y H2 I2 rx ry q=>hr a b pins s2 σ H2 x y v u Q I2 rx ry q (hs _ _))
noncomputable def rIxL (K:PySem.W.Frag):R2:=fun x y H Q=>∃p xs i v,x= .ref p/\y= .int i/\SqL K H p xs/\atI xs i=some v/\Q v H
noncomputable def rIxT (K:PySem.W.Frag):R2:=fun x y H Q=>∃p xs i v,x= .ref p/\y= .int i/\SqT K H p xs/\atI xs i=some v/\Q v H
noncomputable def rIxS:R2:=fun x y H Q=>∃z i c,x= .str z/\y= .int i/\z.length<=sizeLine/\atI z.cps.toList i=some c/\Q (.str ⟨#[c]⟩) H
theorem A4s:IxR X (rIxL X.K):=by
 intro value slice pins s σ H x y v u Q I rx ry h hs
 obtain⟨p,xs,i,z,rfl,rfl,hq,he,q⟩:=h
 cases rx
 obtain⟨t,rfl⟩:=ry
 obtain⟨its,r,pl,hz⟩:=I.list hq
 obtain⟨j,h1,h2,h3,h4,h5⟩:=D2r he
 obtain⟨w,ew,rw'⟩:=r.get h2
 have hl:=r.length
 have hn:=C1a
 have fin:EP X pins σ Q w s:=⟨z,H,I,rw',q⟩
 by_cases h0:0<=i
 . have hj:i.toNat=j:=by
     rw[seqIndex_of h0 h5] at h1
     exact Option.some.inj h1
   exact item_listR pl.isList h0 (by omega) (by rw[hj];simpa using ew) fin hs
 . have hj:(i+(its.toArray.size:Int)).toNat=j:=by
     rw[seqIndex_neg (by omega) h4] at h1
     rw[List.size_toArray, <-hl]
     exact Option.some.inj h1
   exact subscriptTail_builtinR (x:=w) pl.isList.typeIs slot_list_getitem.lookup
     (wpAny_getItem_list_neg (Q:=fun r s'=>r=w/\EP X pins σ Q r s') pl.isList (by omega) (by rw[List.size_toArray]<;>omega) (by omega) (by rw[hj];simpa using ew) ⟨rfl,fin⟩) hs
theorem G2:IxR X (rIxT X.K):=by
 intro value slice pins s σ H x y v u Q I rx ry h hs
 obtain⟨p,xs,i,z,rfl,rfl,hq,he,q⟩:=h
 cases rx
 obtain⟨t,rfl⟩:=ry
 obtain⟨its,r,pl,hz⟩:=I.tuple hq
 obtain⟨j,h1,h2,h3,h4,h5⟩:=D2r he
 obtain⟨w,ew,rw'⟩:=r.get h2
 have hl:=r.length
 have hn:=C1a
 have fin:EP X pins σ Q w s:=⟨z,H,I,rw',q⟩
 exact subscriptTail_builtinR (x:=w) pl.typeIs slot_tuple_getitem.lookup
   (getItem_tuple (j:=j) (Q:=fun r s'=>r=w/\EP X pins σ Q r s') pl (by omega) (by omega) (by rw[List.size_toArray, <-hl];exact h1) (by simpa using ew) ⟨rfl,fin⟩) hs
theorem Z0x:IxR X rIxS:=by
 intro value slice pins s σ H x y v u Q I rx ry h hs
 obtain⟨z,i,c,rfl,rfl,hz,he,q⟩:=h
 obtain⟨t,rfl⟩:=rx
 obtain⟨t',rfl⟩:=ry
 obtain⟨j,h1,h2,h3,h4,h5⟩:=D2r he
 have hl:z.cps.toList.length=z.length:=by simp[Str.length]
 rw[hl] at h1 h4 h5
 have hn:=C1a
 exact tail_any (typeIs_str s z t) slot_str_getitem.lookup (getItem_str (c:=c) (by
   have e1:decide (i< -(2^63:Int))=false:=decide_eq_false (by omega)
   have e2:decide (i>=2^63)=false:=decide_eq_false (by omega)
   rw[e1,e2,Bool.or_false]) (by rw[h1];simpa using h2) ⟨.str ⟨#[c]⟩,H,I.tok _,⟨_,rfl⟩,q⟩) hs
noncomputable def B2j:V ->Bool
 | .non=>true
 | .bl _=>true
 | .int _=>true
 | .str _=>true
 |_=>false
noncomputable def eqV:V ->V ->Bool
 | .non,.non=>true
 | .bl a,.bl b=>a==b
 | .bl a,.int b=>(if a then 1 else 0)==b
 | .int a,.bl b=>a==(if b then 1 else 0)
 | .int a,.int b=>a==b
 | .str a,.str b=>a==b
 |_,_=>false
theorem Y9k{A:Around}{s:Shared}{y x:V}{u v:Value}(ry:RelV y u)(rx:RelV x v)(fy:B2j y=true)(fx:B2j x=true):SeqAt.EqAt A s u v (eqV y x):=by
 cases y with
 | non=>
   cases ry
   cases x with
   |non=>cases rx;exact SeqAt.EqAt.same _
   |bl b=>cases rx;exact SeqAt.EqAt.none_bool b
   |int b=>obtain⟨t,rfl⟩:=rx;exact SeqAt.EqAt.none_int b t
   |str b=>obtain⟨t,rfl⟩:=rx;exact SeqAt.EqAt.none_str b t
   |_=>exact absurd (show false=true from fx) Bool.false_ne_true
 | bl a=>
   cases ry
   cases x with
   |non=>cases rx;exact SeqAt.EqAt.bool_none a
   |bl b=>cases rx;exact SeqAt.EqAt.bool_bool a b
   |int b=>obtain⟨t,rfl⟩:=rx;exact SeqAt.EqAt.bool_int a b t
   |str b=>obtain⟨t,rfl⟩:=rx;exact SeqAt.EqAt.bool_str a b t
   |_=>exact absurd (show false=true from fx) Bool.false_ne_true
 | int a=>
   obtain⟨t',rfl⟩:=ry
   cases x with
   |non=>cases rx;exact SeqAt.EqAt.int_none a t'
   |bl b=>cases rx;exact SeqAt.EqAt.int_bool a t' b
   |int b=>obtain⟨t,rfl⟩:=rx;exact SeqAt.EqAt.int_int a t' b t
   |str b=>obtain⟨t,rfl⟩:=rx;exact SeqAt.EqAt.int_str a t' b t
   |_=>exact absurd (show false=true from fx) Bool.false_ne_true
 | str a=>
   obtain⟨t',rfl⟩:=ry
   cases x with
   |non=>cases rx;exact SeqAt.EqAt.str_none a t'
   |bl b=>cases rx;exact SeqAt.EqAt.str_bool a t' b
   |int b=>obtain⟨t,rfl⟩:=rx;exact SeqAt.EqAt.str_int a t' b t
   |str b=>obtain⟨t,rfl⟩:=rx;exact SeqAt.EqAt.str_str a t' b t
   |_=>exact absurd (show false=true from fx) Bool.false_ne_true
 |_=>exact absurd (show false=true from fy) Bool.false_ne_true
noncomputable def eqU (x:V) (u:Value):Bool:=match u with
 | .none=>eqV .non x
 | .bool b=>eqV (.bl b) x
 | .int i _=>eqV (.int i) x
 | .str z _=>eqV (.str z) x
 |_=>false
theorem U6g{x y:V}{u:Value}(r:RelV y u)(f:B2j y=true):eqU x u=eqV y x:=by
 cases y with
 |non=>cases r;rfl
 |bl b=>cases r;rfl
 |int i=>obtain⟨t,rfl⟩:=r;rfl
 |str z=>obtain⟨t,rfl⟩:=r;rfl
 |_=>exact absurd (show false=true from f) Bool.false_ne_true
theorem B4p{x:V}:∀{xs:List V} {us:List Value},Vals xs us ->xs.all B2j=true ->us.any (eqU x)=xs.any fun y=>eqV y x
 |_,_,.nil,_=>rfl
 | y::xs,u::us,.cons r t,f=>by
   rw[List.all_cons,Bool.and_eq_true] at f
   rw[List.any_cons,List.any_cons,U6g r f.1,B4p t f.2]
theorem A8b{A:Around}{s:Shared}{x:V}{v:Value}(rx:RelV x v)(fx:B2j x=true):∀{xs:List V} {us:List Value},Vals xs us ->xs.all B2j=true ->∀u∈us,SeqAt.EqAt A s u v (eqU x u)
 |_,_,.nil,_=>fun u hu=>by cases hu
 | y::xs,u::us,.cons r t,f=>fun u' hu=>by
   rw[List.all_cons,Bool.and_eq_true] at f
   rcases List.mem_cons.mp hu with rfl|hu
   . rw[U6g r f.1];exact Y9k r rx f.1 fx
   . exact A8b rx fx t f.2 u' hu
noncomputable def inV (x:V) (xs:List V):Bool:=xs.any fun y=>eqV y x
noncomputable def rIn (K:PySem.W.Frag) (neg:Bool):R2:=fun x y H Q=>∃p xs,y= .ref p/\(SqL K H p xs\/SqT K H p xs)/\B2j x=true/\xs.all B2j=true/\Q (.bl (if neg then !inV x xs else inV x xs)) H
theorem A4e:OpR X (compareOp .In) (rIn X.K false):=by
 intro pins s σ H x y v u Q I rx ry h
 obtain⟨p,xs,rfl,hq,fx,fs,q⟩:=h
 cases ry
 rcases hq with hq|hq
 . obtain⟨its,r,pl,hz⟩:=I.list hq
   refine SeqAt.in_listAt (eqU x) pl.isList (fun w hw=>A8b rx fx r fs w (by simpa using hw)) ⟨.bl _,H,I,rfl,?_⟩
   rw[show its.toArray.any (eqU x)=its.any (eqU x) by simp,B4p r fs]
   exact q
 . obtain⟨its,r,pl,hz⟩:=I.tuple hq
   refine SeqAt.in_tupleAt (eqU x) pl (fun w hw=>A8b rx fx r fs w (by simpa using hw)) ⟨.bl _,H,I,rfl,?_⟩
   rw[show its.toArray.any (eqU x)=its.any (eqU x) by simp,B4p r fs]
   exact q
theorem B4k:OpR X (compareOp .NotIn) (rIn X.K true):=by
 intro pins s σ H x y v u Q I rx ry h
 obtain⟨p,xs,rfl,hq,fx,fs,q⟩:=h
 cases ry
 rcases hq with hq|hq
 . obtain⟨its,r,pl,hz⟩:=I.list hq
   refine SeqAt.notIn_listAt (eqU x) pl.isList (fun w hw=>A8b rx fx r fs w (by simpa using hw)) ⟨.bl _,H,I,rfl,?_⟩
   rw[show its.toArray.any (eqU x)=its.any (eqU x) by simp,B4p r fs]
   exact q
 . obtain⟨its,r,pl,hz⟩:=I.tuple hq
   refine SeqAt.notIn_tupleAt (eqU x) pl (fun w hw=>A8b rx fx r fs w (by simpa using hw)) ⟨.bl _,H,I,rfl,?_⟩
   rw[show its.toArray.any (eqU x)=its.any (eqU x) by simp,B4p r fs]
   exact q
theorem D3a:A7z X (.builtin "len") (fun xs H Q=>∃p ys,xs=[.ref p]/\(SqL X.K H p ys\/SqT X.K H p ys)/\Q (.int ys.length) H):=by
 intro pins s σ H xs us Q I r h
 obtain⟨p,ys,rfl,hq,q⟩:=h
 obtain⟨u,rfl,rx⟩:=C1r r
 cases rx
 have hn:=C1a
 rcases hq with hq|hq
 . obtain⟨its,r',pl,hz⟩:=I.list hq
   have hlen:=r'.length
   exact Calls.call_len_list pl.isList (by simp only[List.size_toArray]<;>omega) ⟨.int ys.length,H,I.tok _,⟨s.toks+1,by rw[List.size_toArray,hlen]⟩,q⟩
 . obtain⟨its,r',pl,hz⟩:=I.tuple hq
   have hlen:=r'.length
   exact len_tuple pl (by simp only[List.size_toArray]<;>omega) ⟨.int ys.length,H,I.tok _,⟨s.toks+1,by rw[List.size_toArray,hlen]⟩,q⟩
theorem U9:A7z X (.builtin "len") (fun xs H Q=>∃z,xs=[.str z]/\z.length<=sizeLine/\Q (.int z.length) H):=by
 intro pins s σ H xs us Q I r h
 obtain⟨z,rfl,hz,q⟩:=h
 obtain⟨u,rfl,t,rfl⟩:=C1r r
 have hn:=C1a
 exact len_str (by omega) ⟨.int z.length,H,I.tok _,⟨_,rfl⟩,q⟩
theorem D2z:A7z X (.type "list") (fun xs H Q=>∃p ys,xs=[.ref p]/\(SqL X.K H p ys\/SqT X.K H p ys)/\∀l,H l=none ->Q (.ref l) (upd H l (.lst ys))):=by
 intro pins s σ H xs us Q I r h
 obtain⟨p,ys,rfl,hq,q⟩:=h
 obtain⟨u,rfl,rx⟩:=C1r r
 cases rx
 have fin:∀(its:List Value),Vals ys its ->ys.length<=sizeLine ->∀(h':Heap) (c':Nat),(∀b o',s.heap.get? b=some o' ->h'.get? b=some o') ->
     h'.get? s.heap.objs.size=some {cls:= .type "list",dict:=none,data:= .seq its.toArray c',slots:= #[]} ->EP X pins σ Q (.ref s.heap.objs.size) {s with heap:=h'}:=fun its r' hz h' c' kp e=>
   ⟨.ref s.heap.objs.size,_,I.laid (t':=s.toks) kp (Nat.le_refl _) (show ObjOk X.prog X.w _ h' _ (.lst ys) from⟨hz,its,c',r',e⟩),rfl,q _ (I.hok.fresh (Nat.le_refl _))⟩
 rcases hq with hq|hq
 . obtain⟨its,r',pl,hz⟩:=I.list hq
   have hlen:=r'.length
   obtain⟨o,ho,hc,n,hd⟩:=pl.isList
   exact call_list_seq p (.inl rfl) ho hc hd (fun h' c' kp e=>fin its r' hz h' c' kp e) (by simp only[List.size_toArray]<;>omega)
 . obtain⟨its,r',pl,hz⟩:=I.tuple hq
   have hlen:=r'.length
   obtain⟨o,ho,hc,n,hd⟩:=pl
   exact call_list_seq p (.inr rfl) ho hc hd (fun h' c' kp e=>fin its r' hz h' c' kp e) (by simp only[List.size_toArray]<;>omega)
noncomputable def tyV (K:PySem.W.Frag) (T:String) (x:V) (H:Hp):Prop:=match x with
 | .str _=>T="str"
 | .int _=>T="int"
 | .ref p=>(T="list"/\∃xs,SqL K H p xs)\/(T="tuple"/\∃o,K.lookup p=some o/\o.cls= .type "tuple"/\o.dict=none)\/
     (T="dict"/\((∃kvs,H p=some (.dK kvs))\/∃kvs,H p=some (.dT kvs)))\/(T="set"/\∃S n,H p=some (.set S n))
 |_=>False
theorem U7x{pins:List (Addr×Obj)}{σ:St}{H:Hp}{s:Shared}{T:String}{x:V}{v:Value}(I:Inv X pins σ H s)(r:RelV x v)(ty:tyV X.K T x H):
   s.TypeIs v T/\∀a,v= .ref a ->∃ob,s.heap.get? a=some ob/\ob.dict=none:=by
 cases x with
 | str z=>
   obtain⟨t,rfl⟩:=r
   cases(show T="str" from ty)
   exact⟨typeIs_str s z t,fun _ e=>nomatch e⟩
 | int i=>
   obtain⟨t,rfl⟩:=r
   cases(show T="int" from ty)
   exact⟨typeIs_int s i t,fun _ e=>nomatch e⟩
 | ref p =>
   cases r
   rcases ty with⟨rfl,xs,hq⟩|⟨rfl,o,hk,hc,hd⟩|⟨rfl,hk⟩|⟨rfl,S,n,hk⟩
   . obtain⟨its,_,pl,_⟩:=I.list hq
     refine⟨pl.isList.typeIs,fun a e=>?_⟩
     cases e
     obtain⟨o,n,e,c,hd,_⟩:=pl
     exact⟨o,e,hd⟩
   . refine⟨⟨o,I.kIn p o hk,hc⟩,fun a e=>?_⟩
     cases e
     exact⟨o,I.kIn _ o hk,hd⟩
   . have z:∃o,s.heap.get? p=some o/\o.ExactDict:=by
       rcases hk with⟨kvs,hk⟩|⟨kvs,hk⟩
       . obtain⟨_,_,_,_,o,_,_,e,ex,_⟩:=I.hok p _ hk
         exact⟨o,e,ex⟩
       . obtain⟨_,_,_,_,o,_,_,e,ex,_⟩:=I.hok p _ hk
         exact⟨o,e,ex⟩
     obtain⟨o,e,ex⟩:=z
     refine⟨⟨o,e,ex.1⟩,fun a e2=>?_⟩
     cases e2
     exact⟨o,e,ex.2.1⟩
   . obtain⟨o,_,_,_,e,ex,_⟩:=I.hok p _ hk
     refine⟨⟨o,e,ex.1⟩,fun a e2=>?_⟩
     cases e2
     exact⟨o,e,ex.2.1⟩
 |_=>exact False.elim ty
noncomputable def tBM0 (K:PySem.W.Frag) (T:String) (r:V ->List V ->Hp ->VK ->Prop) (to:TE):TE:=fun σ H Q=>to σ H fun x H1=>tyV K T x H1/\r x [] H1 Q
noncomputable def tBM (K:PySem.W.Frag) (T:String) (r:V ->List V ->Hp ->VK ->Prop) (to:TE) (t:TA):TE:=fun σ H Q=>to σ H fun x H1=>tyV K T x H1/\t σ H1 fun xs H2=>r x xs H2 Q
variable{o e:Expr}{es:List Expr}{to:TE}{t:TA}{name:Str}{apos cpos:Pos}{T id:String}{r:V ->List V ->Hp ->VK ->Prop}
theorem Z1b(pa:PlainAttrs T)(slot:Slot T name id)(hty:typeOf (.builtin id)=pure (.type "method_descriptor"))(hm:MtR X id r)(ho:PE X o to)
   (hbase:attributeBase o name X.env (eval o X.env)=eval o X.env:=by rfl) (hline:(apos.endLine==cpos.line)=true:=by rfl):PE X (.Call (.Attribute o name apos) [] [] cpos) (tBM0 X.K T r to):=by
 intro pins s σ H Q I h
 refine wpAny_Call_method0_late hbase hline (thn (ho pins s σ H _ I h) fun v s1 hh_=>?_)
 obtain⟨x,H1,I1,r1,ty,q1⟩:=hh_
 obtain⟨h1,h2⟩:=U7x I1 r1 ty
 exact⟨T,id,pa,slot,hty,h1,h2,Calls.callWith_builtin rfl (PySem.evalArgs_none (hm pins s1 σ H1 x [] v [] Q I1 r1 .nil q1))⟩
theorem Y8t(pa:PlainAttrs T)(slot:Slot T name id)(hty:typeOf (.builtin id)=pure (.type "method_descriptor"))(hm:MtR X id r)(ho:PE X o to)(ha:PA X (e::es) t)
   (hbase:attributeBase o name X.env (eval o X.env)=eval o X.env:=by rfl)
   (hfew:((backTo cpos (starEach (e::es) X.env)).all (fun x=> !x.1)&&(backToKw cpos (keywordEach [] X.env)).all (fun x=>x.1.isSome)
     &&decide ((e::es).length+([]:List Keyword).length+(if([]:List Keyword).isEmpty then 0 else 1)<30))=true:=by rfl)
   (hline:(apos.endLine==cpos.line)=true:=by rfl) (hs:starEach (e::es) X.env=(false,eval e X.env)::starEach es X.env:=by rfl) (hplain:(backTo cpos (starEach es X.env)).any (·.1)=false:=by rfl):
   PE X (.Call (.Attribute o name apos) (e::es) [] cpos) (tBM X.K T r to t):=by
 intro pins s σ H Q I h
 refine wpAny_Call_method_late hbase hfew hline rfl (thn (ho pins s σ H _ I h) fun v s1 hh_=>?_)
 obtain⟨x,H1,I1,r1,ty,q1⟩:=hh_
 obtain⟨h1,h2⟩:=U7x I1 r1 ty
 refine⟨T,id,pa,slot,hty,h1,h2,?_⟩
 have hA:=ha cpos pins s1 σ H1 _ I1 q1
 rw[hs] at hA ⊢
 refine Calls.callWith_builtin (by show(false||(backTo cpos (starEach es X.env)).any (·.1))=false;rw[hplain]<;>rfl) (Calls.evalArgs_plain ?_)
 exact thn hA fun us s2 ⟨vs,H2,I2,r2,q2⟩=>hm pins s2 σ H2 x vs v us Q I2 r1 r2 q2
end
noncomputable def MtM (X:Cx) (id:String) (r:V ->List V ->Hp ->VK ->Prop):Prop:=
 ∀ (pins:List (Addr×Obj)) (s:Shared) (σ:St) (H:Hp) (x:V) (xs:List V) (v:Value) (us:List Value) (Q:VK),Inv X pins σ H s ->RelV x v ->Vals xs us ->r x xs H Q ->
   wpAny (model X.prog X.w) X.A (call (.builtin id) (v::us)) (EP X pins σ Q) X.xe s
theorem Vals.one{x:V}{us:List Value}(h:Vals [x] us):∃u,us=[u]/\RelV x u:=by
 cases h with
 |cons r t=>cases t;exact⟨_,rfl,r⟩
theorem Vals.two{x y:V}{us:List Value}(h:Vals [x,y] us):∃u v,us=[u,v]/\RelV x u/\RelV y v:=by
 cases h with
 | cons r t=>
   cases t with
   |cons q z=>cases z;exact⟨_,_,rfl,r,q⟩
theorem Vals.rep{xs:List V}{us:List Value}(h:Vals xs us):∀k:Nat,Vals (List.replicate k xs).flatten (List.replicate k us).flatten
 |0=> .nil
 | k+1=>by
   rw[List.replicate_succ,List.replicate_succ,List.flatten_cons,List.flatten_cons]
   exact Vals.append h (Vals.rep h k)
theorem D0e(its:List Value):∀(k:Nat) (acc:List Value),
   List.foldl (fun x1 x2=>x1++x2) acc.toArray (List.replicate k its.toArray)=(acc++(List.replicate k its).flatten).toArray
 |0,acc=>by simp
 | k +1,acc=>by
   have e:acc.toArray++its.toArray=(acc++its).toArray:=by simp
   have e2:(acc++its)++(List.replicate k its).flatten=acc++(List.replicate (k+1) its).flatten:=by
     rw[List.replicate_succ,List.flatten_cons,List.append_assoc]
   rw[<-e2, <-D0e its k (acc++its), <-e,List.replicate_succ,List.foldl_cons]
section
variable{X:Cx}{pins:List (Addr×Obj)}{σ:St}{H:Hp}{s:Shared}{l b:Addr}{xs ys zs:List V}
theorem Inv.lset{its its':List Value}{n:Nat}{f:Array Value ->Array Value}{t':Nat}(I:Inv X pins σ H s)(hH:H l=some (.lst xs))
   (e:s.heap.get? l=some {cls:= .type "list",data:= .seq its.toArray n}) (hf:f its.toArray=its'.toArray) (hv:Vals ys its') (hz:ys.length<=sizeLine):
   Inv X pins σ (upd H l (.lst ys)) {s with heap:=s.heap.update l (Obj.mapSeq f),toks:=t'}:=by
 have q:=PySem.IsL.update e f
 rw[hf] at q
 refine I.write (x:=l) (e:=l) (by rw[hH];exact trivial) (.inl rfl) (fun b' u hb hu=>(Heap.get?_update_other s.heap (Obj.mapSeq f) (Ne.symm hb)).trans hu) ⟨_,q⟩ ?_
 exact⟨hz,its',_,hv,q⟩
theorem Inv.lnew{its:List Value}{t':Nat}(I:Inv X pins σ H s)(hv:Vals ys its)(hz:ys.length<=sizeLine):
   Inv X pins σ (upd H s.heap.objs.size (.lst ys)) {s with heap:=s.heap.push {cls:= .type "list",data:= .seq its.toArray},toks:=t'}:=
 I.laid (fun _ _ q=>Heap.get?_push_of_some _ q) (Nat.le_refl _) ⟨hz,its,0,hv,Heap.get?_push_size _ rfl⟩
theorem Inv.fresh(I:Inv X pins σ H s):H s.heap.objs.size=none:=I.hok.fresh (Nat.le_refl _)
theorem Inv.lstM(I:Inv X pins σ H s)(hH:H l=some (.lst xs)):xs.length<=sizeLine/\∃(its:List Value) (n:Nat),Vals xs its/\xs.length=its.length/\s.heap.get? l=some {cls:= .type "list",data:= .seq its.toArray n}:=by
 obtain⟨z,its,n,r,e⟩:=I.hok l _ hH
 exact⟨z,its,n,r,r.length,e⟩
theorem U7h{n:Nat}(h:n<=sizeLine):Builtin.List.listTooLong n=false:=by
 unfold Builtin.List.listTooLong
 exact decide_eq_false (by omega)
end
section
variable{X:Cx}
noncomputable def Y3z:V ->List V ->Hp ->VK ->Prop:=fun x vs H Q=>∃l xs y,x= .ref l/\vs=[y]/\H l=some (.lst xs)/\xs.length<sizeLine/\Q .non (upd H l (.lst (xs++ [y])))
theorem B1h:MtM X "list.append" Y3z:=by
 intro pins s σ H x vs v us Q I rx rv h
 obtain⟨l,xs,y,rfl,rfl,hH,hz,q⟩:=h
 cases rx
 obtain⟨u,rfl,ru⟩:=rv.one
 obtain⟨z,its,n,r,hl,e⟩:=I.lstM hH
 refine call_meets F.slot_list_append ⟨_,e,rfl⟩ F.entry_list_append (F.args_list_append_2 _ _) (PySem.list_append l its.toArray n u (by rw[List.size_toArray];omega)) ⟨e,?_⟩
 refine⟨.non,_,I.lset (its':=its++ [u]) hH e (by simp) (r.append (.cons ru .nil)) ?_,rfl,q⟩
 rw[List.length_append,List.length_singleton]
 omega
noncomputable def rCat:R2:=fun x y H Q=>∃l b xs zs,x= .ref l/\y= .ref b/\H l=some (.lst xs)/\H b=some (.lst zs)/\xs.length+zs.length<=sizeLine/\∀p,H p=none ->Q (.ref p) (upd H p (.lst (xs++zs)))
theorem D1x:OpR X (binaryOp .Add) rCat:=by
 intro pins s σ H x y v u Q I rx ry h
 obtain⟨l,b,xs,zs,rfl,rfl,hH,hB,hz,q⟩:=h
 cases rx
 cases ry
 obtain⟨z,its,n,r,hl,e⟩:=I.lstM hH
 obtain⟨z2,its2,n2,r2,hl2,e2⟩:=I.lstM hB
 refine PySem.P.add_list e e2 ?_ (by rw[List.size_toArray,List.size_toArray];omega)
 have ea:its.toArray++its2.toArray=(its++its2).toArray:=by simp
 rw[ea]
 exact⟨.ref _,_,I.lnew (t':=s.toks) (r.append r2) (by rw[List.length_append];omega),rfl,q _ I.fresh⟩
noncomputable def Z9k:R2:=fun x y H Q=>∃l k xs,x= .ref l/\y= .int k/\H l=some (.lst xs)/\ -(2^63)<=k/\k<2^63/\xs.length*k.toNat<=sizeLine/\
 ∀p,H p=none ->Q (.ref p) (upd H p (.lst (List.replicate k.toNat xs).flatten))
theorem J7k{α:Type}(xs:List α)(k:Nat):(List.replicate k xs).flatten.length=k*xs.length:=by
 induction k with
 |zero=>simp
 |succ k ih=>rw[List.replicate_succ,List.flatten_cons,List.length_append,ih,Nat.succ_mul,Nat.add_comm]
theorem G8v:OpR X (binaryOp .Mult) Z9k:=by
 intro pins s σ H x y v u Q I rx ry h
 obtain⟨l,k,xs,rfl,rfl,hH,h1,h2,hz,q⟩:=h
 cases rx
 obtain⟨t,rfl⟩:=ry
 obtain⟨z,its,n,r,hl,e⟩:=I.lstM hH
 have hlen:its.toArray.size*k.toNat<=sizeLine:=by rw[List.size_toArray, <-hl];exact hz
 have hcap:¬its.toArray.size*k.toNat>(2^63-1)/8:=by
   have:(sizeLine:Nat)<=(2^63-1)/8:=by decide
   omega
 have hfit:¬(!Builtin.List.listFitsIndex k)=true:=by
   rw[fitsIndex_both h1 h2]
   exact Bool.false_ne_true
 have hlong:¬Builtin.List.listTooLong (its.toArray.size*k.toNat)=true:=by
   rw[U7h hlen]
   exact Bool.false_ne_true
 have hnew:List.foldl (fun x1 x2=>x1++x2) #[] (List.replicate (if its.toArray.isEmpty=true then 0 else k.toNat) its.toArray)=(List.replicate k.toNat its).flatten.toArray:=by
   have f0:∀m:Nat,List.foldl (fun x1 x2=>x1++x2) #[] (List.replicate m its.toArray)=(List.replicate m its).flatten.toArray:=fun m=>by
     have:=D0e its m []
     rw[List.nil_append] at this
     exact this
   rw[f0]
   cases its with
   |nil=>simp
   |cons a r'=>rw[if_neg (by simp)]
 refine wpAny_binaryOp_repeat_ref (T:="list") (U:="int") (by decide) ⟨_,e,rfl⟩ (fun s'=>typeIs_int s' k t) noFill_list_mul F.fills_int_mul F.slot_int_rmul repeat_list F.slot_int_index.lookup
   (call_meets F.slot_int_rmul (typeIs_int s k t) F.entry_int_rmul (F.args_int_rmul_2 _ _) (int___rmul___int_list k t l its.toArray n)
     ⟨e,rfl,⟨_,e,rfl⟩,call_meets F.slot_list_mul ⟨_,e,rfl⟩ F.entry_list_mul (F.args_list_mul_2 _ _) (AutoListH.list___mul___list_int_3 l its.toArray n k t hfit hcap hlong) ⟨e,?_⟩⟩)
 rw[hnew]
 exact⟨.ref _,_,I.lnew (t':=s.toks) (r.rep k.toNat) (by rw[J7k,Nat.mul_comm];exact hz),rfl,q _ I.fresh⟩
end
section
variable{prog:Program}{w:World}{A:Around}{E:Value ->Shared ->Prop}{s:Shared}
end
section
variable{X:Cx}
end
end L2
namespace Att
open PySem PySem.W PySem.Calls PyProof.Rows
theorem B9u{P:Params}{h:Heap}:∀(ns:List Int) (vs:List Value),WellAll P h vs (ns.map WData.int) ->IntsAre vs ns:=by
 intro ns
 induction ns with
 | nil=>
   intro vs w
   rw[List.map_nil] at w
   cases w
   exact .nil
 | cons n ns ih=>
   intro vs w
   rw[List.map_cons] at w
   cases w with
   | cons a b=>
     cases a
     exact .cons _ _ (ih _ b)
theorem U0b{l:OpenLaw}{n:Nat}(hn:l.most=some n){P:Params}{h:Heap}{args:List WData}{vals:List Value}
   (hpre:l.row.toRowW.claim.pre args=true) (hwl:WellAll P h vals args):
   ∃a vs ns,vals=[Value.ref a]/\args=[WData.list (ns.map WData.int)]/\h.get? a=some {cls:= .type "list",data:= .seq vs.toArray}/\IntsAre vs ns/\ns.length<=n:=by
 have hsh:WShape.hasAll [] args [.list .int]=true:=(pre_splitW hpre).1
 have hc:l.pre.holds [] {args:=args}=true:=(pre_splitW hpre).2
 obtain⟨d,r,rfl,h1,h2⟩:=hasAllW_cons hsh
 obtain rfl:=hasAllW_nil h2
 obtain⟨xs,rfl,h3⟩:=hasW_list h1
 obtain⟨ns,rfl⟩:=items_int h3
 have hlen:ns.length<=n:=by
   unfold OpenLaw.pre at hc
   have h4:(WTm.not (.lt (.lit (.int (n:Int))) (.len (.arg 0)))).holds [] {args:=[.list (ns.map .int)]}=true:=by
     have h4:=(holds_andW hc).1
     rw[hn] at h4
     exact h4
   have h5:=condW_of h4 (w_not (w_lt w_lit (w_len_list (w_arg rfl))))
   rw[List.length_map] at h5
   refine Nat.le_of_not_lt fun q=>?_
   have q':(n:Int)<((ns.length:Nat):Int):=by omega
   first
     |(rw[decide_eq_true q'] at h5;exact absurd h5 (by decide))
     |(simp at h5;omega)
 cases hwl with
 | cons w1 w2=>
   cases w2
   cases w1 with
   |list ho hall=>exact⟨_,_,ns,rfl,rfl,ho,B9u ns _ hall,hlen⟩
theorem U0q(l:OpenLaw)(args:List WData):l.row.toRowW.claim.post args (.bool true) args=true:=
 postW_of (r:=l.row.toRowW) (X:=(true==true))
   (show WShape.has [] (.bool true) .bool=true by first|rfl|decide|simp[WShape.has,WShape.arms,WShape.armsAll])
   (show(WTm.eq .res (.lit (.bool true))).value [] {args:=args,res:=some (.bool true),after:=args}=some (.bool (true==true)) from w_eq_bool (w_res rfl) w_lit) rfl
theorem attach_call{l:OpenLaw}{n:Nat}{q:Program}{loose:List Str}{XP:(Str ->Option Value) ->Heap ->Prop}{YP:World ->Heap ->Prop}{d:DefRec}
   (hn:l.most=some n) (hdf:d.params.defaults=[])
   (call:∀(w:World) (s₀ s₁:Shared) (mg mb:Str ->Option Value) (fa:Addr) (o:Obj) (pm cd doc:Value) (a:Addr) (vs:List Value) (ns:List Int),
     Ground q loose [] XP w s₀ mg mb s₁.heap ->YP w s₁.heap ->
     s₁.heap.get? fa=some o ->o.data= .func (docDef d.name d.params d.body d.scope pm cd doc) ->s₁.heap.CodeRec cd d.name ->mg d.name=some (.ref fa) ->
     s₁.heap.get? a=some {cls:= .type "list",data:= .seq vs.toArray} ->IntsAre vs ns ->ns.length<=n ->s₁.gens= #[] ->
     codeAny (model l.prog w) callerA (.call (.ref fa) ⟨[.ref a],[]⟩) (fun r s'=>r= .ok (.ret (.bool true))/\OldK s₁.heap s'.heap/\s'.os=s₁.os/\AllBare s'.gens) s₁):
   WalkO q loose XP YP l.row.toRowW d [] (fun f vs=>PySem.call f vs):=by
 intro w s₀ s₁ mg mb G Y fa o pm cd doc dV kV ho hd hcd hD hmg hg args vals as hpre hlay hrd hwl hlo
 obtain rfl:dV= .none:=Dflts.none hD hdf
 obtain rfl:kV= .none:=Dflts.noKw hD
 obtain⟨a,vs,ns,rfl,rfl,hobj,hints,hlen⟩:=U0b hn hpre hwl
 refine enter_call (codeAny_mono (call w s₀ s₁ mg mb fa o pm cd doc a vs ns G Y ho (fd_plain hd) hcd hmg hobj hints hlen hg) fun r s' hq=>?_)
 obtain⟨rfl,h2,h3,h4⟩:=hq
 exact⟨.inl ⟨.bool true,.bool true,[],rfl,fun _=>rfl,.bool true,U0q l _,fun _=>⟨List.Pairwise.nil,fun _ hm=>(nomatch hm)⟩⟩,h2,h3,h4⟩
section
variable{prog:Program}{w:World}{A:Around}{E:Value ->Shared ->Prop}{s:Shared}{K:Frag}
end
end Att
namespace L2
open PySem PySem.Spec PyProof.Rows
theorem D0y:∀{vs:List Value} {ns:List Int},IntsAre vs ns ->Vals (ns.map V.int) vs
 |_,_,.nil=> .nil
 |_,_,.cons n t h=> .cons ⟨t,rfl⟩ (D0y h)
noncomputable def Z0b (H:Hp):Prop:=∀b,H b=none\/∃o xs,H b=some (.frz o (.lst xs))
theorem U6t{P:Program}{w:World}{K:PySem.W.Frag}{mg mb:Str ->Option Value}{CX:CXT}{k:Nat}{fa a:Addr}{fd:FuncData}{x:Str}{sp:Sp}{s₁:Shared}{vs:List Value}{ns:List Int}
   (KX:K.In s₁.heap) (hns:s₁.heap.Ns mainGlobals mg) (hb:s₁.heap.Ns builtinsNs mb) (hbb:∀x:Str,x≠"__name__" ->mb x=bootBuiltins x) (hlim:s₁.heap.NoLimit) (hg:s₁.gens= #[])
   (ha:s₁.heap.get? a=some {cls:= .type "list",data:= .seq vs.toArray}) (hi:IntsAre vs ns) (hl:ns.length<=sizeLine) (hr:Room k callerA)
   (F:∀base:Heap,K.In base ->base.Ns mainGlobals mg ->FnOk P w K mg base CX k fa fd [x] sp) (hbind:∀(s:Shared) (u:Value),BindsTo s fd ⟨[u],[]⟩ [(x,u)])
   (hsp:∀H:Hp,Z0b H ->SqL K H a (ns.map V.int) ->sp [.ref a] H (fun v _=>v= .bl true) fun _ _ _=>False)
   (hCX:∀H e s',CX [] H s₁ (fun _ _ _=>False) e s' ->False):
   codeAny (model P w) callerA (.call (.ref fa) ⟨[.ref a],[]⟩) (fun r s'=>r= .ok (.ret (.bool true))/\OldK s₁.heap s'.heap/\s'.os=s₁.os/\AllBare s'.gens) s₁:=by
 have rv:=D0y hi
 have lenV:=hi.length
 have core :∀H:Hp,Z0b H ->SqL K H a (ns.map V.int) ->HOk P w H s₁.heap ->(∀b,H b≠none ->b=a) ->(H a≠none ->K.lookup a=none) ->
     codeAny (model P w) callerA (.call (.ref fa) ⟨[.ref a],[]⟩) (fun r s'=>r= .ok (.ret (.bool true))/\OldK s₁.heap s'.heap/\s'.os=s₁.os/\AllBare s'.gens) s₁:=by
   intro H hO hS hok hA hK
   have base_of:∀{b:Addr} {o:Obj},s₁.heap.get? b=some o ->H b=none ->(D1v s₁.heap H).get? b=some o:=fun e n=>U7k e n
   have noA:∀{b:Addr} {o:Obj} {es:Array DictEntry} {ep:Nat},s₁.heap.get? b=some o ->o.data= .dict es ep ->H b=none:=fun{b o es ep} e d=>by
     cases q:H b with
     |none=>rfl
     | some u=>
       have e':b=a:=hA b (by rw[q];simp)
       subst e'
       rw[ha] at e;cases e
       have d':Data.seq vs.toArray _=Data.dict es ep:=d
       cases d'
   have nsK:∀{b:Addr} {m:Str ->Option Value},s₁.heap.Ns b m ->(D1v s₁.heap H).Ns b m:=fun{b m} ⟨o,es,ep,e,d,r⟩=>⟨o,es,ep,base_of e (noA e d),d,r⟩
   have hKb:K.In (D1v s₁.heap H):=fun b o e=>base_of (KX b o e) (by
     cases q:H b with
     |none=>rfl
     | some u=>
       have e':b=a:=hA b (by rw[q];simp)
       subst e'
       rw[hK (by rw[q];simp)] at e;cases e)
   have hM:Mod K mg (D1v s₁.heap H):=⟨hKb,nsK hns,⟨mb,nsK hb,hbb⟩,let⟨mc,h1,h2⟩:=hlim;⟨mc,nsK h1,h2⟩⟩
   have e0:Env0 P w K mg (D1v s₁.heap H) callerA [] s₁ H:=⟨rfl,hM,fun b o e=>Y5e e,Nat.le_of_eq (J8x _ _),trivial,fun b hb=>absurd (show b∈([]:List Addr) from hb) (by simp),hok,.of_eq hg⟩
   refine codeAny_mono ((F _ hKb (nsK hns)).run callerA [] s₁ H ⟨[.ref a],[]⟩ [.ref a] [.ref a] _ _ hr e0 (hbind s₁ (.ref a)) (.cons rfl .nil) (hsp H hO hS)) fun r s' h=>?_
   cases r with
   |error e=>exact(hCX H e s' h).elim
   | ok fl =>
     cases fl with
     |next=>exact False.elim h
     |brk=>exact False.elim h
     |cont=>exact False.elim h
     | ret u=>
       obtain⟨v,H',os,bare,un,hok',r',q⟩:=h
       have q':v= .bl true:=q
       subst q'
       obtain rfl:u=Value.bool true:=r'
       refine⟨rfl,OldK.of_keep fun b o e=>?_,os,bare⟩
       cases q:H b with
       |none=>exact un.keep b o e q (by intro z;exact absurd (show b∈([]:List Addr) from z) (by simp)) (by simp)
       | some u=>
         rcases hO b with z|⟨ob,xs,z⟩
         . rw[q] at z;cases z
         . have z2:=un.frzs b ob _ z
           obtain⟨e1,_⟩:=hok b _ z
           obtain⟨e2,_⟩:=hok' b _ z2
           rw[e] at e1;cases e1
           exact e2
 cases hk:K.lookup a with
 | some o=>
   have e:=KX a o hk
   rw[ha] at e
   cases e
   refine core (fun _=>none) (fun _=> .inl rfl) (.inr ⟨_,vs.toArray,_,hk,rfl,rfl,rfl,by rw[List.size_toArray,lenV];exact hl,by simpa using rv⟩) (fun b u z=>by have z':(none:Option HO)=some u:=z;cases z') (fun b z=>absurd rfl z) fun z=>absurd rfl z
 | none=>
   refine core (fun b=>if b=a then some (.frz {cls:= .type "list",data:= .seq vs.toArray} (.lst (ns.map V.int))) else none) (fun b=>?_) (.inl (.inr ⟨{cls:= .type "list",data:= .seq vs.toArray},if_pos rfl⟩)) (fun b u z=>?_) (fun b z=>?_) fun _=>hk
   . by_cases hb:b=a
     . exact .inr ⟨_,_,if_pos hb⟩
     . exact .inl (if_neg hb)
   . by_cases hb:b=a
     . have z':=(if_pos hb).symm.trans z
       cases z'
       subst hb
       exact⟨ha,by rw[List.length_map];exact hl,vs,_,rv,ha⟩
     . have z':=(if_neg hb).symm.trans z
       cases z'
   . by_cases hb:b=a
     . exact hb
     . exact absurd (if_neg hb) z
theorem walk_of{l:PySem.W.OpenLaw}{n k:Nat}{q:Program}{loose:List Str}{XP:(Str ->Option Value) ->Heap ->Prop}{YP:World ->Heap ->Prop}{d:DefRec}{K:Params ->PySem.W.Frag}{CX:World ->CXT}{sp:World ->Sp}{x:Str}
   (hn:l.most=some n) (hn2:n<=sizeLine) (hdf:d.params.defaults=[]) (hr:Room k callerA)
   (hY:∀(w:World) (h:Heap),YP w h ->(K w.params).In h)
   (F:∀(w:World) (mg:Str ->Option Value) (fa:Addr) (h:Heap),(K w.params).In h ->h.Ns mainGlobals mg ->mg d.name=some (.ref fa) ->
     ∃ fd:FuncData,(∀(s:Shared) (u:Value),BindsTo s fd ⟨[u],[]⟩ [(x,u)])/\
       ∀base:Heap,(K w.params).In base ->base.Ns mainGlobals mg ->FnOk l.prog w (K w.params) mg base (CX w) k fa fd [x] (sp w))
   (hsp:∀(w:World) (H:Hp) (a:Addr) (ns:List Int),ns.length<=n ->Z0b H ->SqL (K w.params) H a (ns.map V.int) ->sp w [.ref a] H (fun v _=>v= .bl true) fun _ _ _=>False)
   (hCX:∀(w:World) (H:Hp) (s:Shared) (e:Value) (s':Shared),CX w [] H s (fun _ _ _=>False) e s' ->False):
   PySem.W.WalkO q loose XP YP l.row.toRowW d [] (fun f vs=>PySem.call f vs):=by
 refine Att.attach_call hn hdf fun w s₀ s₁ mg mb fa o pm cd doc a vs ns G Y ho hd hcd hmg hobj hints hlen hg=>?_
 have KX:=hY w _ Y
 obtain⟨fd,hb,hF⟩:=F w mg fa _ KX G.T.g hmg
 exact U6t KX G.T.g G.T.b G.T.builtins G.T.nolimit hg hobj hints (Nat.le_trans hlen hn2) hr hF hb (fun H hO hS=>hsp w H a ns hlen hO hS) fun H e s'=>hCX w H s₁ e s'
noncomputable def D7 (s:Stmt) (j:Nat):Stmt:=match s with
 | .ClassDef _ _ _ body _ _ _ _ _ _ _=>body.getD j (.Pass ⟨0,0,0,0⟩)
 |_=> .Pass ⟨0,0,0,0⟩
noncomputable def B0 (s:Stmt):Arguments:=match s with
 | .FunctionDef _ a _ _ _ _ _ _ _ _=>a
 |_=>{posonlyargs:=[],args:=[],vararg:=none,kwonlyargs:=[],kw_defaults:=[],kwarg:=none,defaults:=[]}
noncomputable def A9 (s:Stmt):List Stmt:=match s with
 | .FunctionDef _ _ b _ _ _ _ _ _ _=>b
 |_=>[]
noncomputable def A2 (s:Stmt):Scope:=match s with
 | .FunctionDef _ _ _ _ _ _ sc _ _ _=>sc
 |_=>{kind:= .function,names:=[],isGenerator:=false,isCoroutine:=false}
noncomputable abbrev CX0:CXT:=fun _ _ _ _ _ _=>False
noncomputable abbrev E0:XK:=fun _ _ _=>False
theorem Z6d{X:Cx}:G7u CX0 X E0:=fun _ _ _ _ _ _ _ h=>h.elim
structure Fun(K:PySem.W.Frag)(x qual:Str)(st:Stmt)(f:Addr)(fd:FuncData):Prop where
 ex:∃(oc:Value) (od:Option Addr) (kV doc pm:Value) (an:Option Addr) (cdv ct:Value) (osl:Array (Option Value)),
   fd=PySem.W.fnOf x qual (B0 st) (A9 st) (A2 st) .none kV doc pm an cdv ct/\K.lookup f=some ⟨oc,od,.func fd,osl⟩/\PySem.W.codeIn K cdv qual=true
 kp:PySem.W.keepIn K (.ref f)=true
section
variable{P:Program}{w:World}{K:PySem.W.Frag}{mg:Str ->Option Value}{base:Heap}
theorem Fun.ok{x qual:Str}{st:Stmt}{f:Addr}{fd:FuncData}{N ps:List Str}{k:Nat}{sp:Sp}(F:Fun K x qual st f fd)(S:FnScope N ps (A2 st))(len:∀vs H Q E,sp vs H Q E ->vs.length=ps.length)
   (hbody:∀(cdv:Value) (A:Around) (outer:List Env) (s:Shared) (H:Hp) (vs:List V) (Q:VK) (E:XK),Room k (A.deeper (envOfC qual (A2 st) s.heap.objs.size f cdv)) ->sp vs H Q E ->
     ∃t,PSs (A0a CX0 P w K mg base N qual (A2 st) f cdv A outer s H E).nox (A9 st) t/\t {nx:=fun _ H'=>Q .non H',rt:=Q} (B2h N vs) H):FnOk P w K mg base CX0 (k+1) f fd ps sp:=by
 obtain⟨oc,od,kV,doc,pm,an,cdv,ct,osl,rfl,lk,hcd⟩:=F.ex
 refine U7n lk hcd S len fun A outer s H vs Q E hr hsp=>?_
 obtain⟨t,h,q⟩:=hbody cdv A outer s H vs Q E hr hsp
 exact⟨t,h.nox,q⟩
theorem Fun.binds{x qual:Str}{st:Stmt}{f:Addr}{fd:FuncData}{ps:List Str}(F:Fun K x qual st f fd)
   (h:∀(kV doc pm:Value) (an:Option Addr) (cdv ct:Value) (us:List Value),us.length=ps.length ->bindArgs (PySem.W.fnOf x qual (B0 st) (A9 st) (A2 st) .none kV doc pm an cdv ct) ⟨us,[]⟩=pure (ps.zip us)):Binds K fd ps []:=by
 obtain⟨oc,od,kV,doc,pm,an,cdv,ct,osl,rfl,lk,hcd⟩:=F.ex
 exact .all (h kV doc pm an cdv ct)
theorem J0{x qual:Str}{st:Stmt}{f:Addr}{oc:Value}{od an:Option Addr}{osl:Array (Option Value)}{kV doc pm cdv ct:Value}(l:K.lookup f=some ⟨oc,od,.func (PySem.W.fnOf x qual (B0 st) (A9 st) (A2 st) .none kV doc pm an cdv ct),osl⟩)
   (c:PySem.W.codeIn K cdv qual=true) (k:PySem.W.keepIn K (.ref f)=true):Fun K x qual st f (PySem.W.fnOf x qual (B0 st) (A9 st) (A2 st) .none kV doc pm an cdv ct):=⟨⟨oc,od,kV,doc,pm,an,cdv,ct,osl,rfl,l,c⟩,k⟩
end
theorem V9{n:Nat}(h:n<=1000):n<sizeLine:=Nat.lt_of_le_of_lt h (by decide)
section
variable{X:Cx}
theorem pv(i:Nat){x:Str}{pos:Pos}(hN:X.N[i]?=some x:=by rfl)(hv:Vis X.env.scope x:=by first|exact Or.inl rfl|exact Or.inr (Or.inl rfl)|exact Or.inr (Or.inr rfl))(hd:(x==("__debug__":Str))=false:=by decide)
   (hcd:(x==("__classdict__":Str))=false:=by decide):PE X (.Name x pos) (Z5w i):=Z0k hN hv hd hcd
end
theorem J4{A B:Prop}(h:B):if false=true then A else B:=by
 rw[if_neg Bool.false_ne_true]
 exact h
theorem V2{A B:Prop}(h:A):if true=true then A else B:=by
 rw[if_pos rfl]
 exact h
theorem G2g{c A B:Prop} [Decidable c] (hc:c) (h:B):if(!decide c)=true then A else B:=by
 rw[decide_eq_true hc]
 exact J4 h
noncomputable def Same (H H':Hp):Prop:=∀b o,H b=some o ->H' b=some o
theorem Same.refl(H:Hp):Same H H:=fun _ _ h=>h
theorem Same.trans{H H1 H2:Hp}(a:Same H H1)(b:Same H1 H2):Same H H2:=fun c o h=>b c o (a c o h)
theorem Same.free{H H':Hp}(e:Same H H'){l:Addr}(h:H' l=Option.none):H l=Option.none:=by
 cases q:H l with
 |none=>rfl
 | some o=>
   rw[e l o q] at h
   cases h
theorem Same.seq{K:PySem.W.Frag}{H H':Hp}{a:Addr}{xs:List V}(e:Same H H')(h:SqL K H a xs):SqL K H' a xs:=by
 rcases h with(h|⟨o,h⟩)|h
 . exact .inl (.inl (e _ _ h))
 . exact .inl (.inr ⟨o,e _ _ h⟩)
 . exact .inr h
end L2
set_option maxHeartbeats 4000000
namespace L2
open PySem PySem.Spec PyProof.Rows
noncomputable abbrev A1b (C:Value) (t:Addr) (dd:Option Addr) (tb:Value):Obj:=
 {cls:=C,dict:=dd,data:= .fields #[.ref t,tb,.none,.none,.bool false,.none]}
structure Noted(fs:List Addr)(h h':Heap)(a:Addr)(C:Value)(t:Addr)(dd:Option Addr)(T:Addr)(fl:Value):Prop where
 keep:∀b o,b ∉ fs ->b≠a ->h.get? b=some o ->h'.get? b=some o
 slot:∀b o,b≠a ->h.get? b=some o ->∃sl,h'.get? b=some {o with slots:=sl}
 new:h.get? T=none
 ne:T≠a
 exc:h'.get? a=some (A1b C t dd (.ref T))
 tbk:∃oT ts,h'.get? T=some oT/\oT.data= .fields ts/\ts[3]?=some fl
section
variable{M:Model}{A:Around}{E:Value ->Shared ->Prop}{s:Shared}{base:Heap}{env:Env}{outer:List Env}{L a t:Addr}{C:Value}{dd:Option Addr}{tb:Value}{Q:Unit ->Shared ->Prop}
theorem Y5m{oa:Obj}{vs:Array Value}{l:List Env}(hl:s.heap.FunFrames base l)(ha:s.heap.get? a=some oa)(hd:oa.data= .fields vs):a ∉ l.filterMap (·.frame):=by
 intro hm
 obtain⟨_,o,ho,hn⟩:=hl.mem hm
 rw[ha] at ho
 cases ho
 exact hn vs hd
theorem J7r{head:Value}{hn:Bool}(hfr:A.frames=some (env::outer))(hl:s.heap.FunFrames base (env::outer))(hf:env.frame=some L)
   (ha:s.heap.get? a=some (A1b C t dd tb))
   (h:∀h' T,Noted ((env::outer).filterMap (·.frame)) s.heap h' a C t dd T (rawInt L) ->Q () {s with heap:=h'}):
   wpAny M A (do
     let x<-frameOf env
     let pl<-entryPlaceOf L hn
     let b<-EntryCells.newEntry head x .none (rawInt L) .none pl
     setField (.ref a) 1 b) Q E s:=by
 have na:=Y5m hl ha rfl
 refine wpAny_bind (wpAny_frameOf_fun hfr hl hf fun g hg=>?_)
 refine wpAny_bind (wpAny_entryPlaceOf fun pl hpl=>?_)
 unfold EntryCells.newEntry newFields
 refine wpAny_bind (wpAny_newObj_type ?_ (hpl.sizeOk5 _ _ _ _ _))
 have a1:g.get? a=some (A1b C t dd tb):=(hg.2.1 a na).trans ha
 have a2:=fun(z:Obj)=>Heap.get?_push_of_some (h:=g) z a1
 have nT:g.objs.size≠a:=Nat.ne_of_gt (Heap.lt_size a1)
 refine wpAny_setField (a2 _) rfl (by show 1<6;decide) (h _ g.objs.size ?_)
 have up:∀(z:Obj) (f:Obj ->Obj) b o,b≠a ->g.get? b=some o ->((g.push z).update a f).get? b=some o:=by
   intro z f b o hb e
   rw[Heap.get?_update_other _ _ (Ne.symm hb)]
   exact Heap.get?_push_of_some _ e
 refine⟨fun b o hb hba e=>up _ _ b o hba ((hg.2.1 b hb).trans e),fun b o hba e=>?_,?_,nT,?_,?_⟩
 . obtain⟨sl,e1⟩:=hg.2.2 b o e
   exact⟨sl,up _ _ b _ hba e1⟩
 . refine Heap.get?_none_of_le ?_
   rw[hg.1]
   exact Nat.le_refl _
 . exact Heap.get?_update_self _ (a2 _) rfl
 . refine⟨_,_,(Heap.get?_update_other _ _ (Ne.symm nT)).trans (Heap.get?_push_size _ rfl),rfl,?_⟩
   first
     |(simp;done)
     |(rcases hpl with rfl|⟨_,_,_,_,_,_,_,rfl⟩<;>simp)
noncomputable def Z1h (h:Heap) (a:Addr) (tb:Value):Prop:=tb= .none\/∃T oT ts,tb= .ref T/\T≠a/\h.get? T=some oT/\oT.data= .fields ts/\ts[3]?=some .none
theorem Z0u(hfr:A.frames=some (env::outer))(hl:s.heap.FunFrames base (env::outer))(hf:env.frame=some L)
   (ha:s.heap.get? a=some (A1b C t dd tb)) (ht:Z1h s.heap a tb)
   (h:∀h' T,(∀b o,b ∉ (env::outer).filterMap (·.frame) ->b≠a ->tb≠ .ref b ->s.heap.get? b=some o ->h'.get? b=some o) ->
     (∀b o,b≠a ->tb≠ .ref b ->s.heap.get? b=some o ->∃sl,h'.get? b=some {o with slots:=sl}) ->s.heap.get? T=none ->T≠a ->
     h'.get? a=some (A1b C t dd (.ref T)) ->(∃oT ts,h'.get? T=some oT/\oT.data= .fields ts/\ts[3]?=some (rawInt L)) ->Q () {s with heap:=h'}):
   wpAny M A (noteFrame (.ref a) env) Q E s:=by
 unfold noteFrame
 simp only[hf]
 refine wpAny_bind (wpAny_field ha rfl (x:=tb) rfl ?_)
 rcases ht with rfl|⟨T,oT,ts,rfl,nT,hT,dT,h3⟩
 . rw[if_neg (by decide)]
   refine J7r hfr hl hf ha fun h' T N=>?_
   exact h h' T (fun b o hb hba _ e=>N.keep b o hb hba e) (fun b o hba _ e=>N.slot b o hba e) N.new N.ne N.exc N.tbk
 . rw[if_pos (show(Value.ref T !=Value.none)=true by simp)]
   refine wpAny_bind (wpAny_field hT dT h3 ?_)
   rw[if_neg (show¬((Value.none==rawInt L)=true) by simp[rawInt])]
   refine wpAny_bind (wpAny_setField hT dT (Array.getElem?_eq_some_iff.mp h3).1 ?_)
   have oth:∀(f:Obj ->Obj) b,b≠T ->(s.heap.update T f).get? b=s.heap.get? b:=fun f b hb=>Heap.get?_update_other _ _ (Ne.symm hb)
   have nrec:∀b o,s.heap.get? b=some o ->(∀vs,o.data≠ .fields vs) ->b≠T:=by
     intro b o e hn q
     rw[q,hT] at e
     cases e
     exact hn ts dT
   refine J7r (s:={s with heap:=_}) hfr (hl.of_keeps fun b o e hn=>⟨o,(oth _ b (nrec b o e hn)).trans e,rfl⟩) hf ((oth _ a (Ne.symm nT)).trans ha) fun h' T' N=>?_
   have neb:∀b,Value.ref T≠Value.ref b ->b≠T:=fun b q z=>q (by rw[z])
   refine h h' T' (fun b o hb hba hbT e=>N.keep b o hb hba ((oth _ b (neb b hbT)).trans e)) (fun b o hba hbT e=>N.slot b o hba ((oth _ b (neb b hbT)).trans e)) ?_ N.ne N.exc N.tbk
   have nw:=N.new
   by_cases q:T'=T
   . subst q
     have:=Heap.get?_update_self (Obj.mapFields (·.setIfInBounds 3 Value.none)) hT (Obj.isFreed_of_fields (Obj.data_mapFields dT _))
     rw[nw] at this
     cases this
   . rw[oth _ T' q] at nw
     exact nw
theorem Z0q{T:Addr}{oT:Obj}{ts:Array Value}{fl:Value}(ha:s.heap.get? a=some (A1b C t dd (.ref T)))(nT:T≠a)(hT:s.heap.get? T=some oT)(dT:oT.data= .fields ts)(h3:ts[3]?=some fl)
   (h:∀h',(∀b o,b≠T ->s.heap.get? b=some o ->h'.get? b=some o) ->Z1h h' a (.ref T) ->Q () {s with heap:=h'}):wpAny M A (setFlight (.ref a) none) Q E s:=by
 have sz:3<ts.size:=(Array.getElem?_eq_some_iff.mp h3).1
 unfold setFlight
 refine wpAny_bind (wpAny_field ha rfl (x:= .ref T) rfl ?_)
 rw[if_pos (show(Value.ref T !=Value.none)=true by simp)]
 refine wpAny_setField hT dT sz (h _ (fun b o hb e=>(Heap.get?_update_other _ _ (Ne.symm hb)).trans e) ?_)
 have d2:=Obj.data_mapFields dT (·.setIfInBounds 3 ((none:Option Addr).elim Value.none fun f=>rawInt f))
 exact .inr ⟨T,_,_,rfl,nT,Heap.get?_update_self _ hT (Obj.isFreed_of_fields d2),d2,by simp[sz]⟩
end
noncomputable def Hd (A:Around) (h:Heap):Prop:=A.handled=none\/∃x ox vs,A.handled=some (.ref x)/\h.get? x=some ox/\ox.data= .fields vs/\vs[2]?=some .none
theorem C6m : entryFor table "proto.unchain" = some Builtin.«proto.unchain» := entryFor_of_tree (by kernel_rfl)
section
variable{prog:Program}{w:World}{A:Around}{E:Value ->Shared ->Prop}{s:Shared}
theorem G2s{α:Type}{a:Addr}{oa:Obj}{ws:Array Value}{h₀:Heap}{Q:α ->Shared ->Prop}(hd:Hd A h₀)(k:∀b o,h₀.get? b=some o ->s.heap.get? b=some o)(na:h₀.get? a=none)
   (ha:s.heap.get? a=some oa) (da:oa.data= .fields ws) (h2:2<ws.size)
   (h:∀h',(∀b o,b≠a ->s.heap.get? b=some o ->h'.get? b=some o) ->(∃o',h'.get? a=some o'/\o'.cls=oa.cls) ->E (.ref a) {s with heap:=h'}):
   wpAny (model prog w) A (raiseNew (.ref a):Sem α) Q E s:=by
 unfold raiseNew
 refine wpAny_bind (wpAny_handled ?_)
 rcases hd with z|⟨x,ox,vs,z,e,d,n⟩
 . rw[z]
   exact wpAny_bind (wpAny_pure (wpAny_throw (h _ (fun b o _ e=>e) ⟨_,ha,rfl⟩)))
 . rw[z]
   have nx:x≠a:=by
     intro q
     rw[q,na] at e
     cases e
   dsimp only
   rw[if_pos (show(Value.ref x !=Value.ref a)=true by simpa using nx)]
   refine wpAny_bind (wpAny_holding (wpAny_runValue (codeAny_builtin C6m ?_)))
   unfold Builtin.«proto.unchain»
   dsimp only
   refine wpAny_bind (wpAny_field (k x ox e) d n ?_)
   rw[if_pos (by decide)]
   refine wpAny_pure ?_
   dsimp only
   unfold updateField
   refine wpAny_bind (wpAny_bind (wpAny_load ha ?_))
   rw[da]
   dsimp only
   rw[if_pos h2]
   refine wpAny_update ha (wpAny_throw (h _ (fun b o hb e=>(Heap.get?_update_other _ _ (Ne.symm hb)).trans e) ⟨_,Heap.get?_update_self _ ha (Obj.isFreed_of_fields (Obj.data_mapFields da _)),Obj.cls_mapFields _ _⟩))
theorem J7q{α:Type}{Q:α ->Shared ->Prop}(hd:Hd A s.heap)
   (h:∀h' e,(∀b o,s.heap.get? b=some o ->h'.get? b=some o) ->({s with heap:=h'}:Shared).TypeIs (.ref e) "StopIteration" ->E (.ref e) {s with heap:=h'}):
   wpAny (model prog w) A (newExc (.type "StopIteration") []>>=fun e=>(raiseNew e:Sem α)) Q E s:=by
 refine wpAny_bind ?_
 simp only[newExc,newTuple]
 refine wpAny_bind (wpAny_newObj_type ?_ (by size_fits));refine wpAny_bind (m:=firstArgMember _ _) (wpAny_of_eq (a:=Value.none) (by first|rfl|(simp only[firstArgMember];rfl)) ?_)
 refine wpAny_newObj_type ?_ (by size_fits);dsimp only
 have k1:∀(z:Obj) b o,s.heap.get? b=some o ->(s.heap.push z).get? b=some o:=fun z b o e=>Heap.get?_push_of_some _ e
 have k2:∀(z y:Obj) b o,s.heap.get? b=some o ->((s.heap.push z).push y).get? b=some o:=fun z y b o e=>Heap.get?_push_of_some _ (Heap.get?_push_of_some _ e)
 have nw:∀(z:Obj),s.heap.get? (s.heap.push z).objs.size=none:=fun z=>Heap.get?_none_of_le (by rw[Heap.size_push];exact Nat.le_succ _)
 refine G2s (s:={s with heap:=_}) (h₀:=s.heap) hd (k2 _ _) (nw _) (Heap.get?_push_size _ rfl) rfl (by show 2<6;decide) fun h' k ⟨o',e',c'⟩=>h h' _ (fun b o e=>?_) ⟨o',e',c'⟩
 refine k b o ?_ (k2 _ _ b o e)
 intro q;rw[q,nw] at e;cases e
theorem B5p{it l:Addr}{i:Nat}{items:Array Value}{Q:Option Value ->Shared ->Prop}(hd:∀h':Heap,Heap.ExtBut it s.heap h' ->Hd A h')
   (hit:s.heap.IsListIter it l i) (hl:s.heap.IsList l items) (hx:items[i]?=none)
   (hQ:∀h',Heap.ExtBut it s.heap h' ->Q none {s with heap:=h'}):wpAny (model prog w) A (pyNext (.ref it)) Q E s:=by
 obtain⟨o,ho,hc,dt⟩:=id hit
 obtain⟨ol,hol,_,nl,dl⟩:=hl
 unfold pyNext
 refine wpAny_bind (wpAny_attempt (wpAny_callSpecial?_slot (name:=Str.ofString "__next__") hit.typeIs slot_listiter_next (wpAny_call_entry slot_listiter_next hit.typeIs entry_listiter_next ?_ (args_listiter_next _))))
 show wpAny _ _ (field (.ref it) 0>>=_) _ _ _;refine wpAny_bind (wpAny_field ho dt (x:= .ref l) rfl ?_)
 show wpAny _ _ (if(Value.ref l==Value.none)=true then _ else _) _ _ _;rw[if_neg (show¬((Value.ref l==Value.none)=true) by simp)]
 show wpAny _ _ (field (.ref it) 1>>=_) _ _ _;refine wpAny_bind (wpAny_field ho dt (x:= .int i 0) rfl ?_)
 show wpAny _ _ (seqItems? (.ref l)>>=_) _ _ _;refine wpAny_bind (wpAny_seqItems hol dl ?_)
 simp only[Int.toNat_natCast,hx]
 refine wpAny_bind (wpAny_rule (wpAny_bind (wpAny_setField ho dt (by simp) ?_)))
 have up:=fun f=>(Heap.SameBut.update (a:=it) (h:=s.heap) (f:=f)).extBut
 refine J7q (s:={s with heap:=_}) (A:=A.in1) (hd _ (up _)) fun h' e k ty=>?_
 refine wpAny_bind (wpAny_isInstance (T:="StopIteration") (b:=true) ty isSubtype_stop ?_)
 exact wpAny_pure (hQ h' fun b o hb z=>k b o (up _ b o hb z))
theorem B9v{it t:Addr}{i:Nat}{items:Array Value}{Q:Option Value ->Shared ->Prop}(hd:∀h':Heap,Heap.ExtBut it s.heap h' ->Hd A h')
   (hit:IsTupIter s.heap it t i) (hl:IsTup s.heap t items) (hx:items[i]?=none)
   (hQ:∀h',Heap.ExtBut it s.heap h' ->Q none {s with heap:=h'}):wpAny (model prog w) A (pyNext (.ref it)) Q E s:=by
 obtain⟨o,ho,hc,dt⟩:=id hit
 obtain⟨ol,hol,_,nl,dl⟩:=hl
 unfold pyNext
 refine wpAny_bind (wpAny_attempt (wpAny_callSpecial?_slot (name:=Str.ofString "__next__") hit.typeIs slot_tupleiter_next (wpAny_call_entry slot_tupleiter_next hit.typeIs entry_tupleiter_next ?_ (args_tupleiter_next _))))
 show wpAny _ _ (field (.ref it) 0>>=_) _ _ _;refine wpAny_bind (wpAny_field ho dt (x:= .ref t) rfl ?_)
 show wpAny _ _ (if(Value.ref t==Value.none)=true then _ else _) _ _ _;rw[if_neg (show¬((Value.ref t==Value.none)=true) by simp)]
 show wpAny _ _ (field (.ref it) 1>>=_) _ _ _;refine wpAny_bind (wpAny_field ho dt (x:= .int i 0) rfl ?_)
 show wpAny _ _ (seqItems? (.ref t)>>=_) _ _ _;refine wpAny_bind (wpAny_seqItems hol dl ?_)
 simp only[Int.toNat_natCast,hx]
 refine wpAny_bind (wpAny_rule (wpAny_bind (wpAny_setField ho dt (by simp) ?_)))
 have up:=fun f=>(Heap.SameBut.update (a:=it) (h:=s.heap) (f:=f)).extBut
 refine J7q (s:={s with heap:=_}) (A:=A.in1) (hd _ (up _)) fun h' e k ty=>?_
 refine wpAny_bind (wpAny_isInstance (T:="StopIteration") (b:=true) ty isSubtype_stop ?_)
 exact wpAny_pure (hQ h' fun b o hb z=>k b o (up _ b o hb z))
end
theorem ObjOk.there{P:Program}{w:World}{H:Hp}{h:Heap}{a:Addr}{o:HO}(x:ObjOk P w H h a o):∃u,h.get? a=some u:=by
 cases o with
 |lst xs=>obtain⟨_,_,_,_,e⟩:=x;exact⟨_,e⟩
 |tup xs=>obtain⟨_,_,_,_,e,_⟩:=x;exact⟨_,e⟩
 |dK kvs=>obtain⟨_,_,_,_,o,_,_,e,_⟩:=x;exact⟨_,e⟩
 |dT kvs=>obtain⟨_,_,_,_,o,_,_,e,_⟩:=x;exact⟨_,e⟩
 |set S n=>obtain⟨o,_,_,_,e,_⟩:=x;exact⟨_,e⟩
 |ins C dx fs=>obtain⟨_,_,_,e,_⟩:=x;exact⟨_,e⟩
 |own y=>obtain⟨_,e⟩:=x;exact⟨_,e⟩
 |xd fs=>obtain⟨_,⟨_,_,_,e,_⟩,_⟩:=x;exact⟨_,e⟩
 |rng lo hi=>obtain⟨_,_,_,e⟩:=x;exact⟨_,e⟩
 |frz ob u=>obtain⟨e,_⟩:=x;exact⟨_,e⟩
 |tbl ps=>exact⟨_,show h.get? a=some _ from x⟩
 |met f y=>exact⟨_,show h.get? a=some _ from x⟩
 |ext φ=>obtain⟨_,e,_⟩:=x;exact e
theorem HOk.new{P:Program}{w:World}{H:Hp}{h:Heap}{a:Addr}(x:HOk P w H h)(e:h.get? a=none):H a=none:=by
 cases q:H a with
 |none=>rfl
 | some u=>
   obtain⟨o,z⟩:=(x a u q).there
   rw[e] at z
   cases z
structure Nw(X:Cx)(pins:List (Addr×Obj))(H:Hp)(b:Addr):Prop where
 un:H b=none
 loc:b≠X.env.locals
 fs:b ∉ X.fs
 old:X.s₀.heap.get? b=none
 cell:∀x c,X.env.cells.lookup x=some c ->c≠b
 pin:∀p∈X.pn++pins,p.1≠b
section
variable{X:Cx}{pins:List (Addr×Obj)}{σ:St}{H H':Hp}{s s':Shared}{a b t:Addr}{C:Value}{dd:Option Addr}
theorem Inv.fsFree(I:Inv X pins σ H s):∀b∈X.fs,H b=none:=fun b hb=>I.stkFree b (by
 rcases I.ok.stk with z|⟨z,zf⟩
 . rw[z];exact hb
 . rw[z]
   unfold frs
   rw[List.filterMap_cons,zf]
   exact List.mem_cons_of_mem _ hb)
theorem Inv.nw(I:Inv X pins σ H s)(hex:X.ex=[])(e:s.heap.get? b=none)(hu:H' b=none):Nw X pins H' b:=by
 refine⟨hu,?_,?_,?_,?_,?_⟩
 . rintro rfl
   obtain⟨m,⟨o,_,_,ho,_⟩,_⟩:=I.loc
   rw[e] at ho
   cases ho
 . intro hb
   obtain⟨_,o,ho,_⟩:=I.funs.mem hb
   rw[e] at ho
   cases ho
 . cases q:X.s₀.heap.get? b with
   |none=>rfl
   | some o=>
     obtain⟨o',z⟩:=I.base.there b o q (by rw[hex];simp)
     rw[e] at z
     cases z
 . rintro x c h rfl
   obtain⟨v,o,ho,_⟩:=I.cell x c h
   rw[e] at ho
   cases ho
 . rintro p hp rfl
   obtain⟨z,_⟩:=I.pin p hp
   rw[e] at z
   cases z
theorem Inv.stepN{h':Heap}{ch:List Addr}(I:Inv X pins σ H s)(hch:∀b∈ch,Nw X pins H b)
   (keep:∀b o,b≠X.env.locals ->b ∉ X.fs ->b ∉ ch ->s.heap.get? b=some o ->h'.get? b=some o)
   (slot:∀b o,b ∉ ch ->s.heap.get? b=some o ->∃sl,h'.get? b=some {o with slots:=sl}):Inv X pins σ H {s with heap:=h'}:=by
 have neL:∀b o,X.s₀.heap.get? b=some o ->b≠X.env.locals:=fun b o e=>Nat.ne_of_lt (Nat.lt_of_lt_of_le (Heap.lt_size e) I.ok.above)
 have neC:∀b o,X.s₀.heap.get? b=some o ->b ∉ ch:=fun b o e hb=>by
   have z:=(hch b hb).old
   rw[e] at z
   cases z
 have cellK:∀x c,X.env.cells.lookup x=some c ->∀v,s.heap.IsCell c v ->h'.IsCell c v:=fun x c e v ⟨o,ho,hd⟩=>by
   have nch:c ∉ ch:=fun z=>(hch c z).cell x c e rfl
   obtain⟨sl,q⟩:=slot c o nch ho
   exact⟨_,q,hd⟩
 refine⟨I.ok,I.os,I.bare,⟨fun b o e n hb hx=>?_,fun b o e n hb hx=>?_,I.base.free,fun b o e hx=>?_,I.base.tups,I.base.frzs,I.base.tbls⟩,?_,fun x c e=>?_,I.free,I.freeC,fun p hp=>?_,?_,I.len⟩
 . exact keep b o (neL b o e) hb (neC b o e) (I.base.keep b o e n hb hx)
 . obtain⟨sl,e1⟩:=I.base.slot b o e n hb hx
   obtain⟨sl',e2⟩:=slot b _ (neC b o e) e1
   exact⟨sl',e2⟩
 . obtain⟨o',e1⟩:=I.base.there b o e hx
   obtain⟨sl',e2⟩:=slot b _ (neC b o e) e1
   exact⟨_,e2⟩
 . obtain⟨m,hn,hl⟩:=I.loc
   refine⟨m,?_,fun i x v e1 e2 e3=>?_⟩
   . obtain⟨o,es,ep,ho,r⟩:=hn
     obtain⟨sl,q⟩:=slot _ o (fun z=>(hch _ z).loc rfl) ho
     exact⟨_,es,ep,q,r⟩
   . obtain⟨u,r,l⟩:=hl i x v e1 e2 e3
     refine⟨u,r,?_⟩
     rcases l with l|⟨k,c,e,z⟩
     . exact .inl l
     . exact .inr ⟨k,c,e,cellK x c e _ z⟩
 . obtain⟨v,z⟩:=I.cell x c e
   exact⟨v,cellK x c e v z⟩
 . obtain⟨e,n,ne,nf,d⟩:=I.pin p hp
   exact⟨keep p.1 p.2 ne nf (fun z=>(hch p.1 z).pin p hp rfl) e,n,ne,nf,d⟩
 . intro c o e
   have tr:∀b,H b≠none ->∀u,s.heap.get? b=some u ->h'.get? b=some u:=fun b hb u q=>
     keep b u (fun z=>hb (by rw[z];exact I.free)) (fun z=>hb (I.fsFree b z)) (fun z=>hb (hch b z).un) q
   refine(I.hok c o e).stay (fun b u hb q=>tr b ?_ u q) (fun _ q=>q) fun _ _ q=>q
   rcases hb with rfl|hb
   . rw[e];simp
   . rw[hb];simp
noncomputable def Flt (X:Cx) (pins:List (Addr×Obj)) (H:Hp) (s:Shared) (a:Addr) (C:Value) (t:Addr) (dd:Option Addr):Prop:=
 Nw X pins H a/\∃tb,s.heap.get? a=some (A1b C t dd tb)/\Z1h s.heap a tb/\∀T,tb= .ref T ->Nw X pins H T
noncomputable def FltAt (X:Cx) (pins:List (Addr×Obj)) (H:Hp) (s:Shared) (a:Addr) (C:Value) (t:Addr) (dd:Option Addr) (fl:Value):Prop:=
 Nw X pins H a/\∃T oT ts,s.heap.get? a=some (A1b C t dd (.ref T))/\T≠a/\Nw X pins H T/\s.heap.get? T=some oT/\oT.data= .fields ts/\ts[3]?=some fl
structure Body(X:Cx):Prop where
 ex:X.ex=[]
 st:X.stack=X.env::X.outer
 fr:X.env.frame=some X.env.locals
theorem FltAt.flt(F:FltAt X pins H s a C t dd .none):Flt X pins H s a C t dd:=by
 obtain⟨n,T,oT,ts,e,ne,nT,eT,dT,h3⟩:=F
 exact⟨n,_,e,.inr ⟨T,oT,ts,rfl,ne,eT,dT,h3⟩,fun T' z=>by cases z;exact nT⟩
noncomputable def G7c:Value ->List Addr
 | .ref z=>[z]
 |_=>[]
theorem U7r{M:Model}{E:Value ->Shared ->Prop}{Q:Unit ->Shared ->Prop}(B:Body X)(I:Inv X pins σ H s)(F:Flt X pins H s a C t dd)
   (k:∀s',Inv X pins σ H s' ->FltAt X pins H s' a C t dd (rawInt X.env.locals) ->Q () s'):wpAny M X.A (noteFrame (.ref a) X.env) Q E s:=by
 obtain⟨na,tb,e,ht,nT⟩:=F
 have hfr:=I.ok.frames
 rw[B.st] at hfr
 have hl:=I.stack
 rw[B.st] at hl
 refine Z0u hfr hl B.fr e ht fun h' T k1 k2 k3 k4 k5 k6=>?_
 have ch:∀b,b ∉ a::G7c tb ->b≠a/\tb≠ .ref b:=by
   intro b hb
   refine⟨fun z=>hb (by rw[z];exact List.mem_cons_self),fun z=>hb ?_⟩
   rw[z]
   exact List.mem_cons_of_mem _ (List.mem_singleton.mpr rfl)
 have I':Inv X pins σ H {s with heap:=h'}:=by
   refine I.stepN (ch:=a::G7c tb) (fun b hb=>?_) (fun b o h1 h2 h3 q=>k1 b o ?_ (ch b h3).1 (ch b h3).2 q) (fun b o h3 q=>k2 b o (ch b h3).1 (ch b h3).2 q)
   . rcases List.mem_cons.mp hb with rfl|hb
     . exact na
     . cases tb<;>simp[G7c] at hb
       subst hb
       exact nT _ rfl
   . intro z
     rw[List.filterMap_cons,B.fr] at z
     rcases List.mem_cons.mp z with z|z
     . exact h1 z
     . exact h2 z
 obtain⟨oT,ts,q1,q2,q3⟩:=k6
 exact k _ I' ⟨na,T,oT,ts,k5,k4,I.nw B.ex k3 (I.hok.new k3),q1,q2,q3⟩
theorem U6x{M:Model}{A:Around}{E:Value ->Shared ->Prop}{Q:Unit ->Shared ->Prop}{fl:Value}(I:Inv X pins σ H s)(F:FltAt X pins H s a C t dd fl)
   (k:∀s',Inv X pins σ H s' ->FltAt X pins H s' a C t dd .none ->Q () s'):wpAny M A (setFlight (.ref a) none) Q E s:=by
 obtain⟨na,T,oT,ts,e,ne,nT,eT,dT,h3⟩:=F
 refine Z0q e ne eT dT h3 fun h' k1 k2=>?_
 have I':Inv X pins σ H {s with heap:=h'}:=I.stepN (ch:=[T]) (fun b hb=>by
   have:b=T:=by simpa using hb
   subst this
   exact nT) (fun b o _ _ hb q=>k1 b o (fun z=>hb (by simp[z])) q) (fun b o hb q=>⟨_,k1 b o (fun z=>hb (by simp[z])) q⟩)
 rcases k2 with z|⟨T',oT',ts',z,_,q1,q2,q3⟩
 . cases z
 . cases z
   exact k _ I' ⟨na,T,oT',ts',k1 a _ (Ne.symm ne) e,ne,nT,q1,q2,q3⟩
theorem J9j{M:Model}{E:Value ->Shared ->Prop}{Q:Unit ->Shared ->Prop}(B:Body X)(I:Inv X pins σ H s)(F:Flt X pins H s a C t dd)
   (k:∀s',Inv X pins σ H s' ->FltAt X pins H s' a C t dd .none ->Q () s'):wpAny M X.A (leaving X.env (.ref a)) Q E s:=by
 unfold leaving
 exact wpAny_bind (U7r B I F fun s1 I1 F1=>U6x I1 F1 k)
end
noncomputable abbrev EK:=Value ->Option Addr ->St ->Hp ->Prop
noncomputable def G5 (X:Cx) (EH:EK):Prop:=∀(pins:List (Addr×Obj)) (σ:St) (H:Hp) (s:Shared) (a t:Addr) (C:Value) (dd:Option Addr),Inv X pins σ H s ->Flt X pins H s a C t dd ->EH C dd σ H ->X.xe (.ref a) s
noncomputable def CX1 (P:Program) (w:World):CXT:=fun outer H s E e s'=>∃(a t:Addr) (C:Value) (dd:Option Addr) (H':Hp),e= .ref a/\s'.os=s.os/\AllBare s'.gens/\Un (frs outer) [] H H' s.heap s'.heap/\HOk P w H' s'.heap/\E C dd H'/\
 (s.heap.get? a=none/\H' a=none)/\∃T oT ts,s'.heap.get? a=some (A1b C t dd (.ref T))/\T≠a/\(s.heap.get? T=none/\H' T=none)/\s'.heap.get? T=some oT/\oT.data= .fields ts/\ts[3]?=some .none
theorem C1j{P:Program}{w:World}{K:PySem.W.Frag}{mg:Str ->Option Value}{base:Heap}{N:List Str}{qual:Str}{scope:Scope}{f:Addr}{cd:Value}{A:Around}{outer:List Env}{s:Shared}{H:Hp}{E:XK}:
   G5 (A0a (CX1 P w) P w K mg base N qual scope f cd A outer s H E) (fun C dd _ H'=>E C dd H'):=by
 intro pins σ H' s' a t C dd I F h
 refine J9j (X:=A0a (CX1 P w) P w K mg base N qual scope f cd A outer s H E) ⟨rfl,rfl,rfl⟩ I F fun s2 I2 F2=>?_
 obtain⟨na,T,oT,ts,e,ne,nT,eT,dT,h3⟩:=F2
 exact⟨a,t,C,dd,H',rfl,I2.os,I2.bare,I2.base,I2.hok,h,⟨na.old,na.un⟩,T,oT,ts,e,ne,⟨nT.old,nT.un⟩,eT,dT,h3⟩
section
variable{X:Cx}{k:Nat}{f C:Addr}{fd:FuncData}{ps:List Str}{sp:Sp}{dvs:List V}{ds:List Value}{EH:EK}{x m:Str}{p pos apos:Pos}{e o:Expr}{es:List Expr}{ta:TE}{t:TA}
theorem Z4x{pins:List (Addr×Obj)}{σ:St}{H:Hp}{s:Shared}{e:Value}{s':Shared}(hx:G5 X EH)(hex:X.ex=[])(I:Inv X pins σ H s)
   (h:CX1 X.prog X.w X.stack H s (fun C d H'=>EH C d σ H') e s'):X.xe e s':=by
 obtain⟨a,t,C,dd,H',rfl,os,bare,un,hok,hE,⟨a1,a2⟩,T,oT,ts,z,ne,⟨t1,t2⟩,eT,dT,h3⟩:=h
 have I':Inv X pins σ H' s':=I.call' (ch:=[]) os un hok bare (fun b q=>absurd q (by simp))
 exact hx pins σ H' s' a t C dd I' (FltAt.flt ⟨I.nw hex a1 a2,T,oT,ts,z,ne,I.nw hex t1 t2,eT,dT,h3⟩) hE
theorem C0d{pins:List (Addr×Obj)}{σ:St}{H:Hp}{s:Shared}{Q:VK}{us:List Value}{vs:List V}(F:FnOk X.prog X.w X.K X.mg X.base (CX1 X.prog X.w) k f fd ps sp)(hr:Room k X.A)(hb:Binds X.K fd ps ds)(hd:Vals dvs ds)
   (hx:G5 X EH) (hex:X.ex=[]) (I:Inv X pins σ H s) (r:Vals vs us) (h:sp (vs++dvs) H Q (fun C d H'=>EH C d σ H')):wpAny (model X.prog X.w) X.A (call (.ref f) us) (EP X pins σ Q) X.xe s:=by
 have r2:Vals (vs++dvs) (us++ds):=r.append hd
 have hl:(us++ds).length=ps.length:=by rw[<-r2.length];exact F.len _ _ _ _ h
 refine wpAny_call (codeAny_mono (F.run X.A X.stack s H ⟨us,[]⟩ (us++ds) (vs++dvs) Q _ hr I.env0 (hb s us I.kIn hl) r2 h) fun r s' hq=>?_)
 cases r with
 |error e=>exact Z4x hx hex I hq
 | ok fl=>
   cases fl with
   |ret u=>exact I.after hq
   |next=>exact False.elim hq
   |brk=>exact False.elim hq
   |cont=>exact False.elim hq
noncomputable def D2c (sp:Sp) (dvs:List V) (EH:EK) (t:TA):TE:=fun σ H Q=>t σ H fun vs H1=>sp (vs++dvs) H1 Q (fun C d H'=>EH C d σ H')
theorem U8k(F:FnOk X.prog X.w X.K X.mg X.base (CX1 X.prog X.w) k f fd ps sp)(hr:Room k X.A)(hg:Gl X x)(hm:X.mg x=some (.ref f))(hk:PySem.W.keepIn X.K (.ref f)=true)(hb:Binds X.K fd ps ds)(hd:Vals dvs ds)
   (hx:G5 X EH) (ha:PA X (e::es) t) (hex:X.ex=[]:=by rfl) (hdb:(x==("__debug__":Str))=false:=by decide) (he:starEach (e::es) X.env=(false,eval e X.env)::starEach es X.env:=by rfl)
   (hpl:(backTo pos (starEach es X.env)).any (·.1)=false:=by rfl):PE X (.Call (.Name x p) (e::es) [] pos) (D2c sp dvs EH t):=by
 intro pins s σ H Q I h
 refine wpAny_Call_Name_kw (A3b I hg hm ?_ hdb)
 refine PySem.W.callWith_K (h₀:=X.base) I.ok.mod.kin hk (thn (ha pos pins s σ H _ I h) fun us s1 ⟨vs,H1,I1,r,q⟩=>⟨I1.kIn,?_⟩) he hpl
 exact C0d F hr hb hd hx hex I1 r q
theorem U0h(F:FnOk X.prog X.w X.K X.mg X.base (CX1 X.prog X.w) k f fd ps sp)(hr:Room k X.A)(hg:Gl X x)(hm:X.mg x=some (.ref f))(hk:PySem.W.keepIn X.K (.ref f)=true)(hb:Binds X.K fd ps ds)(hd:Vals dvs ds)
   (hx:G5 X EH) (hex:X.ex=[]:=by rfl) (hdb:(x==("__debug__":Str))=false:=by decide):PE X (.Call (.Name x p) [] [] pos) (D2c sp dvs EH U8d):=by
 intro pins s σ H Q I h
 refine wpAny_Call_Name_kw (A3b I hg hm ?_ hdb)
 exact PySem.W.callWith_K0 I.kIn hk (C0d (us:=[]) F hr hb hd hx hex I .nil h)
end
section
variable{P:Program}{w:World}{K:PySem.W.Frag}{mg:Str ->Option Value}{base:Heap}
theorem Fun.okE{x qual:Str}{st:Stmt}{f:Addr}{fd:FuncData}{N ps:List Str}{k:Nat}{sp:Sp}(F:Fun K x qual st f fd)(S:FnScope N ps (A2 st))(len:∀vs H Q E,sp vs H Q E ->vs.length=ps.length)
   (hbody:∀(X:Cx) (cdv:Value) (A:Around) (outer:List Env) (s:Shared) (H:Hp) (vs:List V) (Q:VK) (E:XK),X=A0a (CX1 P w) P w K mg base N qual (A2 st) f cdv A outer s H E ->Room k X.A ->G5 X (fun C dd _ H'=>E C dd H') ->sp vs H Q E ->
     ∃t,PSs (A0a (CX1 P w) P w K mg base N qual (A2 st) f cdv A outer s H E) (A9 st) t/\t {nx:=fun _ H'=>Q .non H',rt:=Q} (B2h N vs) H):FnOk P w K mg base (CX1 P w) (k+1) f fd ps sp:=by
 obtain⟨oc,od,kV,doc,pm,an,cdv,ct,osl,rfl,lk,hc⟩:=F.ex
 exact U7n lk hc S len fun A outer s H vs Q E hr h=>hbody _ cdv A outer s H vs Q E rfl hr C1j h
theorem FnOk.up{k:Nat}{f:Addr}{fd:FuncData}{ps:List Str}{sp:Sp}(F:FnOk P w K mg base CX0 k f fd ps sp):FnOk P w K mg base (CX1 P w) k f fd ps sp:=by
 refine⟨F.len,fun A outer s H args us vs Q E hr e0 hb r h=>codeAny_mono (F.run A outer s H args us vs Q E hr e0 hb r h) fun r s' q=>?_⟩
 cases r with
 |error e=>exact False.elim q
 |ok fl=>cases fl<;>exact q
end
end L2
namespace L2
open PySem PySem.Spec PyProof.Rows PySem.W
theorem Y4z{K:Frag}{h:Heap}{C:Addr}{bmB:List Value}{newId:String}(X:K.In h)(q:excIn K C bmB newId=true):
   ∃ (bm:List Value) (N:Addr) (nm qn:Str) (bs:List Value) (hd:Bool) (sn:List Str) (sub:List Value) (ab:Bool) (col:Option Bool) (dd:Option Addr) (k0 k1 k2 k3 k5:Option Value) (mN:Str ->Option Value),
     h.get? C=some (excClassObj nm qn C N bs bm hd sn sub ab col dd k0 k1 k2 k3 k5 newId)/\h.Ns N mN/\mN "__init__"=none/\OwnTail h bmB bm:=by
 unfold excIn at q
 split at q
 . rename_i dd cd sl ho
   split at q
   . rename_i C' bm k0 k1 k2 k3 n k5 hm hs
     simp only[Bool.and_eq_true,beq_iff_eq,Bool.not_eq_true'] at q
     obtain⟨⟨⟨⟨⟨r1,r2⟩,r3⟩,r4⟩,r5⟩,r6⟩:=q
     subst r1 r2
     obtain⟨a1,a2,a3,a4,a5,a6,a7,a8,a9,a10,a11⟩:=cd
     dsimp only at hm r3 r5 r6
     subst hm r3
     have hsl:sl= #[k0,k1,k2,k3,some (.builtin n),k5]:=by
       obtain⟨l⟩:=sl
       simp only at hs
       rw[hs]
     subst hsl
     exact⟨bm,a4,a1,a5,a2,a6,a7,a8,a9,a10,dd,k0,k1,k2,k3,k5,_,X _ _ ho,.of_isNs (isNs_of_in X r5),nsMap_none_of_in X r5 r6,tail_of_in X r4⟩
   . cases q
 . cases q
section
variable{X:Cx}{x:Str}{p cpos pos:Pos}{e:Expr}{es:List Expr}{t:TA}{C:Addr}{bmB:List Value}{B newId initId:String}{EH:EK}
noncomputable def Z0y (C:Addr) (EH:EK) (t:TA):TS:=fun _ σ H=>t σ H fun vs H1=>vs.length<=sizeLine/\EH (.ref C) none σ H1
theorem A2c(hg:Gl X x)(hm:X.mg x=some (.ref C))(q:excIn X.K C bmB newId=true)(FB:ExcBaseFacts B newId initId bmB)(hh:X.A.handled=none)(hx:G5 X EH)(ha:PA X (e::es) t)(hex:X.ex=[]:=by rfl)
   (hdb:(x==("__debug__":Str))=false:=by decide) (he:starEach (e::es) X.env=(false,eval e X.env)::starEach es X.env:=by rfl) (hpl:(backTo cpos (starEach es X.env)).any (·.1)=false:=by rfl):
   PS X (.Raise (some (.Call (.Name x p) (e::es) [] cpos)) none pos) (Z0y C EH t):=by
 intro pins s σ H D I h
 obtain⟨bm,N,nm,qn,bs,hd,sn,sub,ab,col,dd,k0,k1,k2,k3,k5,mN,hC,hN,hni,T⟩:=Y4z I.ok.mod.kin q
 refine wpAny_Raise_call_subT (C:=C) (nm:=nm) (q:=qn) (N:=N) (bs:=bs) (bm:=bm) (hdct:=hd) (sn:=sn) (sub:=sub) (ab:=ab) (col:=col) (dd:=dd) (k0:=k0) (k1:=k1) (k2:=k2) (k3:=k3) (k5:=k5) FB (mN:=mN) (T.hasType FB.hasBase) hh
   (by rw[he];show(false||(backTo cpos (starEach es X.env)).any (·.1))=false;rw[hpl];rfl) hni (A3b I hg hm ⟨rfl,?_⟩ hdb)
 have ha':=ha cpos pins s σ H _ I h
 rw[he] at ha' ⊢
 refine Calls.evalArgs_plain (wpAny_mono ha' (fun us s2 ⟨vs,H1,I1,r,z,q⟩=>⟨rfl,by rw[<-r.length];exact z,I1.bk _ _ hC,hN.keeps I1.bk,T.keeps I1.bk,fun h' a m=>?_⟩) fun _ _ y=>y)
 have I2:Inv X pins σ H1 {s2 with heap:=h'}:=I1.kept (t':=s2.toks) m.keeps
 obtain⟨t',e1,tn,e2⟩:=m.there
 exact hx pins σ H1 _ a t' (.ref C) none I2 ⟨I1.nw hex m.new (I1.hok.new m.new),.none,e1,.inl rfl,fun T z=>nomatch z⟩ q
end
section
variable{X:Cx}{pins:List (Addr×Obj)}{σ:St}{H:Hp}{s:Shared}
end
section
variable{X:Cx}{pins pins':List (Addr×Obj)}{σ:St}{H:Hp}{s:Shared}{a:Addr}{E:Value ->Shared ->Prop}
end
theorem B4m{K:Frag}{M:Model}{h:Heap}{R:Addr}(X:K.In h)(c:(clsIn K R).isSome=true):Looks M h (isType (.ref R)) true:=by
 unfold clsIn at c
 split at c
 . rename_i ho
   intro A' Q' E' s' k q
   unfold isType loadHead
   exact wpAny_bind (wpAny_loadPart (k _ _ (X _ _ ho)) (wpAny_pure q))
 . cases c
section
variable{X:Cx}{x n:Str}{np hpos pos:Pos}{R:Addr}{i:Nat}{body suite:List Stmt}{b₀:Stmt}{tb:EK ->TS}{ts:Addr ->TS}
end
structure ExcK(K:Frag)(C:Addr):Prop where
 ga:findIn K (.ref C) "__getattribute__"=some (some (.builtin "BaseException.__getattribute__"))
 gh:findIn K (.ref C) "__getattr__"=some none
 ca:findIn K (.ref C) "__class__"=some (some (.builtin "object.__class__"))
 sn:specialIn K (.builtin "object.__class__") "__get__"=some (some (.builtin "getset_descriptor.__get__"))
 tk:takesIn K (.builtin "object.__class__")=some true
 ob:mroIn K C (.type "object")=some true
 be:subIn K (.ref C) (.type "BaseException")=some true
 cl:(clsIn K C).isSome=true
theorem A7u{prog:Program}{w:World}{A:Around}{E:Value ->Shared ->Prop}{s:Shared}{K:Frag}{a C:Addr}{oa:Obj}{od:Option Obj}{Q:Option Value ->Shared ->Prop}(F:ExcK K C)(X:K.In s.heap)(I:PySem.W.InstAt s.heap a oa C od)
   (h:Q (some (.ref C)) {s with toks:=s.toks+1}):wpAny (model prog w) A (getAttr? (.ref a) "__class__") Q E s:=by
 obtain⟨hp,g,d,t,os⟩:=s
 have L0:=I.type (M:=model prog w)
 have L1:=looks_findIn (M:=model prog w) X F.ga
 have L2:=looks_findIn (M:=model prog w) X F.gh
 have L3:Looks (model prog w) hp (isInstance (.ref a) (.type "BaseException")) true:=L0.andThen (looks_subIn X F.be)
 have hf:findObj K C od "__class__"=some (.bind (.builtin "getset_descriptor.__get__") (.builtin "object.__class__")):=by
   obtain⟨cd,hc⟩:=Option.isSome_iff_exists.mp F.cl
   unfold findObj
   rw[hc,Option.bind_some,F.ca,Option.bind_some]
   simp[F.sn,F.tk]
 have L4:=looks_find (M:=model prog w) X I hf
 have hk:builtinKind "BaseException.__getattribute__"=some .slot:=by decide+kernel
 have hsplit:splitId "BaseException.__getattribute__"=some ("BaseException","__getattribute__"):=by decide+kernel
 have hargs:=PySem.F.args_bexc_ga (.ref a) (.str "__class__" t)
 have hb:=PySem.F.attr_ValueError.ga.bind (.ref a)
 unfold getAttr? getAttrBy? getAttrBy
 refine wpAny_bind (wpAny_mkText (wpAny_bind (wpAny_attempt (wpAny_holding (wpAny_bind (L0.at (wpAny_bind (L1.at ?_))))))))
 dsimp only
 rw[if_neg (show¬((onTheHeap (Value.ref C)&&Value.builtin "BaseException.__getattribute__"==Value.builtin "object.__getattribute__")=true) by
   rw[show(Value.builtin "BaseException.__getattribute__"==Value.builtin "object.__getattribute__")=false by decide+kernel,Bool.and_false];exact Bool.false_ne_true)]
 unfold getAttrByItsOwn
 refine wpAny_bind (m:=hookBefore (.ref C)) (L2.at ?_)
 refine wpAny_bind (wpAny_attempt (wpAny_holding ?_))
 unfold callGetattribute
 rw[if_neg (by decide)]
 unfold boundAndCalled
 rw[hb]
 refine wpAny_bind (wpAny_pure ?_)
 refine wpAny_call (codeAny_call_builtin PySem.F.attr_ValueError.ga.plain PySem.F.entry_bexc_ga ?_)
 have chk:∀{A':Around} {Q':Unit ->Shared ->Prop} {E':Value ->Shared ->Prop},Q' () ⟨hp,g,d,t+1,os⟩ ->wpAny (model prog w) A' (checkBuiltinCall "BaseException.__getattribute__" ⟨[.ref a,.str "__class__" t],[]⟩) Q' E' ⟨hp,g,d,t+1,os⟩:=by
   intro A' Q' E' hq
   simp only[checkBuiltinCall,hk,hsplit]
   refine wpAny_bind ?_
   refine L3.at ?_
   repeat (first|assumption|wp_step)
 refine chk ?_
 show wpAny _ _ (Builtin.«object.__getattribute__» ⟨[.ref a, .str "__class__" t], []⟩) _ _ _
 unfold Builtin.«object.__getattribute__»
 refine wpAny_bind (wpAny_pure ?_)
 refine wpAny_bind (wpAny_pure ?_)
 refine wpAny_bind (L0.at (wpAny_bind (L4.at ?_)))
 dsimp only
 show wpAny _ _ (holding [Value.builtin "object.__class__"] (call (.builtin "getset_descriptor.__get__") [.builtin "object.__class__",.ref a,.ref C])>>=ret) _ _ _
 refine wpAny_bind (wpAny_holding (wpAny_call (class_get (s:=⟨hp,g,d,t+1,os⟩) X I F.ob (wpAny_pure ?_))))
 exact handed_on rfl (wpAny_pure h)
noncomputable def A3t (X:Cx):Prop:=X.A.handled=none\/∃x o u vs,X.A.handled=some (.ref x)/\X.H₀ x=some (.frz o u)/\o.data= .fields vs/\vs[2]?=some .none
section
variable{X:Cx}{pins:List (Addr×Obj)}{σ:St}{H:Hp}{s:Shared}
theorem Inv.hdB{it:Addr}(I:Inv X pins σ H s)(h:A3t X)(hn:H it=none):∀h':Heap,Heap.ExtBut it s.heap h' ->Hd X.A h':=by
 intro h' k
 rcases h with z|⟨x,o,u,vs,z,e,d,n⟩
 . exact .inl z
 . have q:=I.base.frzs x o u e
   exact .inr ⟨x,o,vs,z,k x o (fun w=>by rw[w,hn] at q;cases q) (I.hok x _ q).1,d,n⟩
end
structure TurnH(P:Program)(w:World)(K:Frag)(tg:Expr)(J:It)(it:Addr)(tn:Nat ->Heap ->Prop):Prop where
 obj:∀i h,tn i h ->∃o,h.get? it=some o/\∀v,o.data≠ .cell v
 keep:∀i h h',tn i h ->(∀o,h.get? it=some o ->h'.get? it=some o) ->tn i h'
 item:∀(X:Cx),X.prog=P ->X.w=w ->X.K=K ->A3t X ->∀(i:Nat) (pins:List (Addr×Obj)) (s:Shared) (σ:St) (H:Hp) (E:Value ->Shared ->Prop),Inv X pins σ H s ->A4u X pins H it ->tn i s.heap ->J.go i H ->
   wpAny (model P w) X.A (pyNext (.ref it)) (fun r s1=>∃u,r=some u/\
     wpAny (model P w) X.A (letOwnedTupleGo tg (.ref it) u) (fun _ s2=>∃x,Inv X pins σ H s2/\RelV x u/\J.yld i H x H/\tn (i+1) s2.heap) E s1) E s
 done:∀(X:Cx),X.prog=P ->X.w=w ->X.K=K ->A3t X ->∀(i:Nat) (pins:List (Addr×Obj)) (s:Shared) (σ:St) (H:Hp) (E:Value ->Shared ->Prop),Inv X pins σ H s ->A4u X pins H it ->tn i s.heap ->J.stop i H ->
   wpAny (model P w) X.A (pyNext (.ref it)) (fun r s1=>r=none/\Inv X pins σ H s1) E s
 self:∀(A:Around) (i:Nat) (s:Shared) (Q:Value ->Shared ->Prop) (E:Value ->Shared ->Prop),tn i s.heap ->Q (.ref it) s ->wpAny (model P w) A (pyIter (.ref it)) Q E s
theorem G6x{P:Program}{w:World}{K:Frag}{tg:Expr}(a it:Addr):TurnH P w K tg (Itl K a) it (fun i h=>h.IsListIter it a i) where
 obj:=fun i h ⟨o,e,c,d⟩=>⟨o,e,fun v z=>by rw[d] at z;cases z⟩
 keep:=fun i h h' st k=>st.at fun o e=>k o e
 item:=by
   intro X hP hw hK hc i pins s σ H E I hf st hg
   subst hP hw hK
   obtain⟨xs,x,hq,hx⟩:=hg
   obtain⟨its,rv,p,hz⟩:=I.list hq
   obtain⟨u,hu,ru⟩:=rv.get hx
   obtain⟨f0,f1,f2,f3,f4,f5⟩:=hf
   refine wpAny_pyNext_list_item st p.isList (x:=u) (by simpa using hu) fun h' st' sb=>?_
   have I1:Inv X pins σ H {s with heap:=h'}:=I.turned (t':=s.toks) (fun b o hb e=>(sb.2 b hb).trans e) f0 f1 f3 f4 f5
   obtain⟨o,e,c,d⟩:=id st'
   exact⟨u,rfl,G2b (s:={s with heap:=h'}) e c d (by decide) ⟨x,I1,ru,⟨rfl,fun ys hy=>by rw[I.list_inj hy hq];exact hx⟩,st'⟩⟩
 done:=by
   intro X hP hw hK hc i pins s σ H E I hf st hg
   subst hP hw hK
   obtain⟨xs,hq,hx⟩:=hg
   obtain⟨its,rv,p,hz⟩:=I.list hq
   obtain⟨f0,f1,f2,f3,f4,f5⟩:=hf
   have hl:=rv.length
   exact B5p (I.hdB hc f0) st p.isList (by simp;omega) fun h' eb=>⟨rfl,I.turned (t':=s.toks) (fun b o hb e=>eb b o hb e) f0 f1 f3 f4 f5⟩
 self:=fun _ _ _ _ _ st h=>wpAny_pyIter_listiter st h
theorem U0n{P:Program}{w:World}{K:Frag}{tg:Expr}(a it:Addr):TurnH P w K tg (Itt K a) it (fun i h=>h.IsTupleIter it a i) where
 obj:=fun i h ⟨o,e,c,d⟩=>⟨o,e,fun v z=>by rw[d] at z;cases z⟩
 keep:=fun i h h' st k=>st.at fun o e=>k o e
 item:=by
   intro X hP hw hK hc i pins s σ H E I hf st hg
   subst hP hw hK
   obtain⟨xs,x,hq,hx⟩:=hg
   obtain⟨its,rv,p,hz⟩:=I.tuple hq
   obtain⟨u,hu,ru⟩:=rv.get hx
   obtain⟨f0,f1,f2,f3,f4,f5⟩:=hf
   refine wpAny_pyNext_tuple_item st (show s.heap.IsTuple a its.toArray from p) (x:=u) (by simpa using hu) fun h' st' sb=>?_
   have I1:Inv X pins σ H {s with heap:=h'}:=I.turned (t':=s.toks) (fun b o hb e=>(sb.2 b hb).trans e) f0 f1 f3 f4 f5
   obtain⟨o,e,c,d⟩:=id st'
   exact⟨u,rfl,G2b (s:={s with heap:=h'}) e c d (by decide) ⟨x,I1,ru,⟨rfl,fun ys hy=>by rw[I.tuple_inj hy hq];exact hx⟩,st'⟩⟩
 done:=by
   intro X hP hw hK hc i pins s σ H E I hf st hg
   subst hP hw hK
   obtain⟨xs,hq,hx⟩:=hg
   obtain⟨its,rv,p,hz⟩:=I.tuple hq
   obtain⟨f0,f1,f2,f3,f4,f5⟩:=hf
   have hl:=rv.length
   exact B9v (I.hdB hc f0) st p (by simp;omega) fun h' eb=>⟨rfl,I.turned (t':=s.toks) (fun b o hb e=>eb b o hb e) f0 f1 f3 f4 f5⟩
 self:=fun _ _ _ _ _ st h=>wpAny_pyIter_tupleiter st h
noncomputable def PIH (X:Cx) (tg iter:Expr) (wi:TI):Prop:=
 ∀ (pins:List (Addr×Obj)) (s:Shared) (σ:St) (H:Hp) (R:It ->Hp ->Prop),Inv X pins σ H s ->wi σ H R ->
   wpAny (model X.prog X.w) X.A (eval iter X.env) (fun v s1=>wpAny (model X.prog X.w) X.A (pyIter v) (fun itv s2=>∃(it:Addr) (tn:Nat ->Heap ->Prop) (J:It) (H':Hp),itv= .ref it/\Inv X pins σ H' s2/\TurnH X.prog X.w X.K tg J it tn/\tn 0 s2.heap/\
     A4u X pins H' it/\R J H') X.xe s1) X.xe s
section
variable{X:Cx}{tg:Expr}
theorem G3a{l:Expr}{tl:TE}(hl:PE X l tl):PIH X tg l (Y8x X.K tl):=by
 intro pins s σ H R I h
 refine thn (hl pins s σ H _ I h) fun v s1 hh_=>?_
 obtain⟨x,H1,I1,r1,q1⟩:=hh_
 obtain⟨a,e,⟨xs,hq⟩,q⟩:=q1
 subst e
 cases r1
 obtain⟨its,rv,p,hz⟩:=I1.list hq
 exact wpAny_pyIter_list p.isList ⟨s1.heap.objs.size,_,_,H1,rfl,I1.kept (t':=s1.toks) fun b o e=>Heap.get?_push_of_some _ e,G6x a _,⟨_,Heap.get?_push_size _ rfl,rfl,rfl⟩,I1.fpOk (Nat.le_refl _) (I1.hok.fresh (Nat.le_refl _)),q⟩
theorem Y5d{l:Expr}{tl:TE}(hl:PE X l tl):PIH X tg l (Z7a X.K tl):=by
 intro pins s σ H R I h
 refine thn (hl pins s σ H _ I h) fun v s1 hh_=>?_
 obtain⟨x,H1,I1,r1,q1⟩:=hh_
 obtain⟨a,e,⟨xs,hq⟩,q⟩:=q1
 subst e
 cases r1
 obtain⟨its,rv,p,hz⟩:=I1.tuple hq
 exact wpAny_pyIter_tuple (show s1.heap.IsTuple a its.toArray from p) ⟨s1.heap.objs.size,_,_,H1,rfl,I1.kept (t':=s1.toks) fun b o e=>Heap.get?_push_of_some _ e,U0n a _,⟨_,Heap.get?_push_size _ rfl,rfl,rfl⟩,I1.fpOk (Nat.le_refl _) (I1.hok.fresh (Nat.le_refl _)),q⟩
end
noncomputable abbrev Cx.comp (X:Cx) (scope:Scope) (N:List Str) (C:Addr) (s₀:Shared) (H₀:Hp) (ex:List Addr) (pins:List (Addr×Obj)):Cx:=
 {X with N:=N,s₀:=s₀,H₀:=H₀,env:=compEnv scope C X.env,outer:=X.stack,ex:=ex,fn:=fun _=>false,pn:=pins,xe:=fun _ _=>False}
structure CompScope(N:List Str)(sc:Scope):Prop where
 kind:sc.kind= .function
 free:∀y∈sc.names,y.2≠ .free
 cell:∀y∈sc.names,y.2≠ .cell
 loc:∀y∈sc.names,y.2= .local ->sc.names.lookup y.1=some .local
 nd:N.Nodup
noncomputable def Y8j (n:Nat) (wi:TI) (g:TG) (tc:TT) (te:TE):TE:=fun σ H Q=>wi σ H fun J H1=>∀D,H1 D=none ->
 ∃ (m:Nat) (W:Nat ->List V ->Hp ->Prop),W 0 [] (upd H1 D (.lst []))/\∀i ys H2,W i ys H2 ->i<=m/\H2 D=some (.lst ys)/\((J.stop i H2/\Q (.ref D) H2)\/(i<m/\J.go i H2/\∀x H3,J.yld i H2 x H3 ->
   g x (List.replicate n none) H3 fun σ4 H4=>tc σ4 H4 fun b H5=>if b=true then te σ4 H5 fun y H6=>H6 D=some (.lst ys)/\ys.length<sizeLine/\W (i+1) (ys++ [y]) (upd H6 D (.lst (ys++ [y]))) else W (i+1) ys H5))
section
variable{X:Cx}
theorem U9p{pins:List (Addr×Obj)}{σ:St}{H:Hp}{s:Shared}{scope:Scope}{N:List Str}{it:Addr}{h':Heap}(S:CompScope N scope)(I:Inv X pins σ H s)(hf:A4u X pins H it)(hit:∃o,s.heap.get? it=some o)(hnb:X.base.get? it=none)
   (hns:h'.Ns s.heap.objs.size (fun _=>none)) (hsb:∀b o,s.heap.get? b=some o ->h'.get? b=some o) {tk:Nat}:
   Inv (X.comp scope N s.heap.objs.size s H [it] (X.pn++pins)) [] (List.replicate N.length none) H {s with heap:=h',toks:=tk}:=by
 obtain⟨f0,f1,f2,f3,f4,f5⟩:=hf
 obtain⟨oi,ei⟩:=hit
 have lt:it<s.heap.objs.size:=Heap.lt_size ei
 have nc:∀x c,(compEnv scope s.heap.objs.size X.env).cells.lookup x=some c ->False:=fun x c z=>by cases z
 have nk:∀x,¬((compEnv scope s.heap.objs.size X.env).kindOf x=some .cell\/(compEnv scope s.heap.objs.size X.env).kindOf x=some .free):=by
   intro x z
   have z:scope.names.lookup x=some .cell\/scope.names.lookup x=some .free:=z
   rcases z with z|z
   . exact S.cell _ (PySem.mem_of_lookup z) rfl
   . exact S.free _ (PySem.mem_of_lookup z) rfl
 refine⟨⟨I.ok.mod,S.kind,I.ok.glob,I.ok.blt,Nat.le_refl _,fun x y c z=>(nc x c z).elim,fun x z=>(nk x z).elim,fun x c _ z=>(nc x c z).elim,I.ok.hd,I.ok.frames,.inl rfl,fun b hb=>?_,I.bs,Nat.le_trans I.ok.bsz I.sz,fun b o e hb=>?_,fun b hb hfs=>?_,I.stack,I.stkFree⟩,
   rfl,I.bare,Un.kept hsb,⟨_,hns,fun i x v e1 e2 e3=>?_⟩,fun x c z=>(nc x c z).elim,I.hok.fresh (Nat.le_refl _),fun x c z=>(nc x c z).elim,fun p hp=>?_,I.hok.kept hsb,by simp⟩
 . have e:b=it:=by simpa using hb
   subst e
   exact⟨Nat.ne_of_lt lt,fun x c z=>(nc x c z).elim⟩
 . have e':b=it:=by simpa using hb
   subst e'
   rw[hnb] at e
   cases e
 . have e':b=it:=by simpa using hb
   subst e'
   rcases List.mem_cons.mp (I.stkSub b hfs) with z|z
   . exact f1 z
   . exact f2 z
 . rw[List.getElem?_replicate] at e2
   split at e2<;>cases e2
 . have hp':p∈X.pn++pins:=by simpa using hp
   obtain⟨q1,q2,q3,q4,q5⟩:=I.pin p hp'
   refine⟨hsb _ _ q1,q2,Nat.ne_of_lt (Heap.lt_size q1),fun z=>?_,q5⟩
   rcases List.mem_cons.mp (I.stkSub p.1 z) with z|z
   . exact q3 z
   . exact q4 z
theorem U0g{elt target iter c:Expr}{scope:Scope}{pos:Pos}{N:List Str}{wi:TI}{g:TG}{tc:TT}{te:TE}(S:CompScope N scope)(hd:A3t X)(hi:PIH X target iter wi)(hex:X.ex=[])
   (hg:∀C s₀ H₀ ex pn,A3t (X.comp scope N C s₀ H₀ ex pn) ->PG (X.comp scope N C s₀ H₀ ex pn) target g)
   (hc:∀C s₀ H₀ ex pn,A3t (X.comp scope N C s₀ H₀ ex pn) ->PT (X.comp scope N C s₀ H₀ ex pn) c tc)
   (he:∀C s₀ H₀ ex pn,A3t (X.comp scope N C s₀ H₀ ex pn) ->PE (X.comp scope N C s₀ H₀ ex pn) elt te)
   {pins:List (Addr×Obj)} {s:Shared} {σ:St} {H:Hp} {Q:VK} {RR:Value ->Env ->Result ->Shared ->Prop} (I:Inv X pins σ H s) (h:(Y8j N.length wi g tc te) σ H Q)
   (hRR:∀(D C:Addr) (s6:Shared) (H5:Hp) (mm:Str ->Option Value),Inv X pins σ H5 s6 ->s6.heap.Ns C mm ->A4u X pins H5 C ->Q (.ref D) H5 ->RR (.ref D) (compEnv scope C X.env) (.ok .next) s6):
   wpAny (model X.prog X.w) X.A (eval iter X.env) (fun v s1=>wpAny (model X.prog X.w) X.A (pyIter v) (fun itv s2=>wpAny (model X.prog X.w) X.A (newList []) (fun acc s3=>wpAny (model X.prog X.w) X.A (newFunctionEnv scope X.env.globals [] [] X.env.qual none .none (some X.env)) (fun cenv s4=>
     codeAny (model X.prog X.w) X.A (.compStart (.ListComp elt [⟨target,iter,[c],0⟩] scope pos) 0 itv acc {cenv with scope:=scope}) (RR acc {cenv with scope:=scope}) s4) X.xe s3) X.xe s2) X.xe s1) X.xe s:=by
 refine thn (hi pins s σ H _ I h) fun v s1 h1=>thn h1 fun itv s2 h2=>?_
 obtain⟨it,tn,J,H2,rfl,I2,T,st2,f2,R⟩:=h2
 obtain⟨oi,ei,di⟩:=T.obj _ _ st2
 have hf2:=I2.hok.fresh (Nat.le_refl _)
 refine wpAny_newObj_type ?_
 have I3:Inv X pins σ (upd H2 s2.heap.objs.size (.lst [])) {s2 with heap:=s2.heap.push {cls:= .type "list",dict:=none,data:= .seq ([]:List Value).toArray}}:=Inv.lnew (t':=s2.toks) I2 .nil (Nat.zero_le _)
 refine wpAny_newFunctionEnv S.cell (by intro y hy;simp at hy) (fun h4 hns hsb=>?_) S.kind
 dsimp only at hns hsb ⊢
 generalize hG:s2.heap.push {cls:= .type "list",dict:=none,data:= .seq ([]:List Value).toArray}=G at I3 hns hsb ⊢
 generalize hD:s2.heap.objs.size=D at I3 hf2
 have nD:it≠D:=by rw[<-hD];exact Nat.ne_of_lt (Heap.lt_size ei)
 have eiG:G.get? it=some oi:=by rw[<-hG];exact Heap.get?_push_of_some _ ei
 have kp:∀b o,G.get? b=some o ->h4.get? b=some o:=fun b o e=>hsb.extBut b o (Nat.ne_of_lt (Heap.lt_size e)) (Heap.get?_push_of_some _ e)
 have f3:A4u X pins (upd H2 D (.lst [])) it:=⟨by rw[C9 nD];exact f2.1,f2.2⟩
 have nb:X.base.get? it=none:=by
   cases q:X.base.get? it with
   |none=>rfl
   | some o=>
     have:=(I.ok.bs it o q).1
     rcases f2.2.2.2.1 with z|z
     . rw[hex] at z;simp at z
     . exact absurd (Nat.lt_of_lt_of_le (Heap.lt_size this) z) (Nat.lt_irrefl _)
 have hns':h4.Ns G.objs.size (fun _=>none):=by
   obtain⟨o,es,ep,q1,q2,q3,q4⟩:=hns
   exact⟨o,es,ep,q1,q2,q3,fun x=>by rw[q4];rfl⟩
 have I4:=U9p (tk:=s2.toks+([]:List (Str×Value)).length) S I3 f3 ⟨oi,eiG⟩ nb hns' kp
 have hdc:A3t (X.comp scope N G.objs.size {s2 with heap:=G} (upd H2 D (.lst [])) [it] (X.pn++pins)):=by
   rcases hd with z|⟨x,o,u,vs,z,e,d,n⟩
   . exact .inl z
   . refine .inr ⟨x,o,u,vs,z,?_,d,n⟩
     have q:=I2.base.frzs x o u e
     show upd H2 D (.lst []) x=_
     rw[C9 fun w=>by rw[w,hf2] at q;cases q]
     exact q
 obtain⟨m,W,w0,turn⟩:=R D hf2
 have gg:=hg _ _ _ _ _ hdc
 have cc:=hc _ _ _ _ _ hdc
 have ee:=he _ _ _ _ _ hdc
 have fpc:∀{H':Hp} {σ':St} {s':Shared} {pl:List (Addr×Obj)},Inv (X.comp scope N G.objs.size {s2 with heap:=G} (upd H2 D (.lst [])) [it] (X.pn++pins)) pl σ' H' s' ->H' it=none ->(∀p∈pl,p.1≠it) ->A4u (X.comp scope N G.objs.size {s2 with heap:=G} (upd H2 D (.lst [])) [it] (X.pn++pins)) pl H' it:=by
   intro H' σ' s' pl J' hn hp
   refine⟨hn,Nat.ne_of_lt (Heap.lt_size eiG),?_,.inl (List.mem_singleton.mpr rfl),(fun x c z=>nomatch z),fun p hpp=>?_⟩
   . intro z
     rcases List.mem_cons.mp (I.stkSub it z) with z|z
     . exact f2.2.1 z
     . exact f2.2.2.1 z
   . rcases List.mem_append.mp hpp with z|z
     . exact f2.2.2.2.2.2 p z
     . exact hp p z
 have loop:codeAny (model X.prog X.w) X.A (.compLoop (.ListComp elt [⟨target,iter,[c],0⟩] scope pos) 0 (.ref it) (.ref D) (compEnv scope G.objs.size X.env))
     (RR (.ref D) (compEnv scope G.objs.size X.env))
     {s2 with heap:=h4,toks:=s2.toks+([]:List (Str×Value)).length}:=by
   refine kct_loop (fun k s'=>∃i ys H',k=m+1-i/\Inv (X.comp scope N G.objs.size {s2 with heap:=G} (upd H2 D (.lst [])) [it] (X.pn++pins)) [] (List.replicate N.length none) H' s'/\tn i s'.heap/\H' it=none/\W i ys H') ?_ (m+1)
     ⟨0,[],_,rfl,I4,T.keep _ _ _ st2 fun o e=>kp it o (by rw[<-hG];exact Heap.get?_push_of_some _ e),f3.1,w0⟩
   rintro k s5 ⟨i,ys,H5,rfl,I5,st5,n5,w5⟩
   obtain⟨hi5,hD5,w5⟩:=turn i ys H5 w5
   rcases w5 with⟨stop,q⟩|⟨lt5,go,step⟩
   . refine wpAny_mono (T.done (X.comp scope N G.objs.size {s2 with heap:=G} (upd H2 D (.lst [])) [it] (X.pn++pins)) rfl rfl rfl hdc i [] s5 _ H5 (fun _ _=>False) I5 (fpc I5 n5 (by simp)) st5 stop) (fun r s6 z=>?_) (fun _ _ z=>z.elim)
     obtain⟨rfl,I6⟩:=z
     obtain⟨mm,hn6,_⟩:=I6.loc
     have B6:=I6.base
     have J6:Inv X pins σ H5 s6:=by
       refine I3.call' (ch:=[it]) I6.os ⟨B6.keep,B6.slot,B6.free,B6.there,B6.tups,B6.frzs,B6.tbls⟩ I6.hok I6.bare (fun b hb=>?_)
       have e:b=it:=by simpa using hb
       subst e
       exact⟨f2.2.2.2.1,f2.2.1,f2.2.2.2.2.1,f2.2.2.2.2.2⟩
     have szG:X.s₀.heap.objs.size<=G.objs.size:=I3.sz
     refine hRR D G.objs.size s6 H5 mm J6 hn6 ⟨I6.free,?_,?_,.inr szG,?_,?_⟩ q
     . exact Nat.ne_of_gt I3.lt
     . intro z
       obtain⟨_,o,ho,_⟩:=I3.funs.mem z
       exact Nat.lt_irrefl _ (Heap.lt_size ho)
     . rintro x c z rfl
       obtain⟨v',o,ho,_⟩:=I3.cell x _ z
       exact Nat.lt_irrefl _ (Heap.lt_size ho)
     . rintro p hp z
       have zz:=(I3.pin p hp).1
       rw[z] at zz
       exact Nat.lt_irrefl _ (Heap.lt_size zz)
   . refine wpAny_mono (T.item (X.comp scope N G.objs.size {s2 with heap:=G} (upd H2 D (.lst [])) [it] (X.pn++pins)) rfl rfl rfl hdc i [] s5 _ H5 (fun _ _=>False) I5 (fpc I5 n5 (by simp)) st5 go) (fun r s6 z=>?_) (fun _ _ z=>z.elim)
     obtain⟨u,rfl,z⟩:=z
     refine wpAny_mono z (fun _ s7 z=>?_) (fun _ _ z=>z.elim)
     obtain⟨x,I7,rx,yl,st7⟩:=z
     obtain⟨o7,e7,d7⟩:=T.obj _ _ st7
     obtain⟨p0,p1,p2,_⟩:=fpc I7 n5 (by simp)
     have I7':Inv (X.comp scope N G.objs.size {s2 with heap:=G} (upd H2 D (.lst [])) [it] (X.pn++pins)) [(it,o7)] (List.replicate N.length none) H5 s7:=I7.pins_of fun p hp=>by
       have e:p=(it,o7):=by simpa using hp
       subst e
       exact⟨e7,p0,p1,p2,d7⟩
     have back:∀{i':Nat} {ys':List V} {H':Hp} {σ':St} {s':Shared},i'=i+1 ->Inv (X.comp scope N G.objs.size {s2 with heap:=G} (upd H2 D (.lst [])) [it] (X.pn++pins)) [(it,o7)] σ' H' s' ->W i' ys' H' ->
         ∃k',k'<m+1-i/\∃i ys H',k'=m+1-i/\Inv (X.comp scope N G.objs.size {s2 with heap:=G} (upd H2 D (.lst [])) [it] (X.pn++pins)) [] (List.replicate N.length none) H' s'/\tn i s'.heap/\H' it=none/\W i ys H':=by
       rintro i' ys' H' σ' s' rfl J' w'
       obtain⟨q1,q2,_⟩:=J'.pin (it,o7) (List.mem_append_right _ (List.mem_singleton.mpr rfl))
       have jl:σ'.length=N.length:=J'.len
       refine⟨m+1-(i+1),by omega,i+1,ys',H',rfl,Inv.weak (J'.pins_of fun p hp=>absurd hp (by simp)) (by rw[jl];simp) (fun j v z=>?_),T.keep _ _ _ st7 fun o z=>?_,q2,w'⟩
       . rw[List.getElem?_replicate] at z
         split at z<;>cases z
       . rw[e7] at z
         cases z
         exact q1
     refine wpAny_mono (gg [(it,o7)] s7 _ H5 x u _ I7' rx (step x H5 yl)) (fun _ s8 z=>?_) (fun _ _ z=>z.elim)
     obtain⟨σ8,H8,I8,q8⟩:=z
     refine wpAny_mono (cc [(it,o7)] s8 σ8 H8 _ I8 q8) (fun b s9 z=>?_) (fun _ _ z=>z.elim)
     obtain⟨H9,I9,q9⟩:=z
     cases b with
     | false=>
       simp only[Bool.false_eq_true,if_false] at q9 ⊢
       exact back rfl I9 q9
     | true=>
       simp only[if_true] at q9 ⊢
       refine wpAny_mono (ee [(it,o7)] s9 σ8 H9 _ I9 q9) (fun y s10 z=>?_) (fun _ _ z=>z.elim)
       obtain⟨yv,H10,I10,ry,hD10,hz10,w10⟩:=z
       refine wpAny_mono (B1h (X:=X.comp scope N G.objs.size {s2 with heap:=G} (upd H2 D (.lst [])) [it] (X.pn++pins)) [(it,o7)] s10 σ8 H10 (.ref D) [yv] (.ref D) [y] (fun _ H11=>W (i+1) (ys++ [yv]) H11) I10 rfl (.cons ry .nil) ⟨D,ys,yv,rfl,rfl,hD10,hz10,w10⟩) (fun _ s11 z=>?_) (fun _ _ z=>z.elim)
       obtain⟨_,H11,I11,_,w11⟩:=z
       exact back rfl I11 w11
 exact codeAny_compStart_list loop (T.self _ 0 _ _ _ (T.keep _ _ _ st2 fun o e=>kp it o (by rw[<-hG];exact Heap.get?_push_of_some _ e)) loop)
theorem Y8s{pins:List (Addr×Obj)}{σ:St}{H:Hp}{s:Shared}{C:Addr}{h':Heap}(I:Inv X pins σ H s)(f:A4u X pins H C)(sb:Heap.SameBut C s.heap h'):Inv X pins σ H {s with heap:=h'}:=
 I.turned (t':=s.toks) (fun b o hb e=>(sb.2 b hb).trans e) f.1 f.2.1 f.2.2.2.1 f.2.2.2.2.1 f.2.2.2.2.2
theorem J7h{elt target iter:Expr}{c:Expr}{tc:TT}{scope:Scope}{pos:Pos}{N:List Str}{wi:TI}{g:TG}{te:TE}(S:CompScope N scope)(hd:A3t X)(hi:PIH X target iter wi)(hex:X.ex=[])
   (hg:∀C s₀ H₀ ex pn,A3t (X.comp scope N C s₀ H₀ ex pn) ->PG (X.comp scope N C s₀ H₀ ex pn) target g)
   (hc:∀C s₀ H₀ ex pn,A3t (X.comp scope N C s₀ H₀ ex pn) ->PT (X.comp scope N C s₀ H₀ ex pn) c tc)
   (he:∀C s₀ H₀ ex pn,A3t (X.comp scope N C s₀ H₀ ex pn) ->PE (X.comp scope N C s₀ H₀ ex pn) elt te)
   (hs:∀x,foldedSetIterable iter X.env x=pure x:=by intro _;rfl):PE X (.ListComp elt [⟨target,iter,[c],0⟩] scope pos) (Y8j N.length wi g tc te):=by
 intro pins s σ H Q I h
 refine wpAny_ListComp S.free S.kind S.loc (U0g S hd hi hex hg hc he I h (RR:=fun acc ce r s'=>∃m,s'.heap.Ns ce.locals m/\∀h',Heap.SameBut ce.locals s'.heap h' ->match r with
   | .ok _=>EP X pins σ Q acc {s' with heap:=h'}
   | .error x=>wpAny (model X.prog X.w) X.A (passOn "comprehension.variables-let-go" x ce) (EP X pins σ Q) X.xe {s' with heap:=h'}) ?_) hs
 intro D C s6 H5 mm I6 n6 f6 q
 exact⟨mm,n6,fun h' sb=>⟨.ref D,H5,Y8s I6 f6 sb,rfl,q⟩⟩
end
section
variable{X:Cx}{a b c:Expr}{ta tb tc:TE}{pos:Pos}
theorem D6:OpR X (binaryOp .Mult) (rI IntMulOk fun i j=> .int (i*j)):=opI fun _ _ _ _ _ _ _ hc q=>mul_int q hc
theorem D5:OpR X (binaryOp .FloorDiv) (rI (fun _ j=>0<j/\j.natAbs.log2<9000) fun i j=> .int (i/j)):=opI fun i j _ _ _ _ _ hc q=>by
 have h1:(0:Int)<j:=hc.1
 exact floordiv_int (by omega) (by rw[Int.fdiv_eq_ediv_of_nonneg i (by omega)];exact q) (.inl (PyProof.noPylong_of_log2 hc.2))
theorem V5{i:Int}{k:Nat}(h:i.natAbs<2^k)(hk:0<k):i.natAbs.log2<k:=by
 by_cases z:i.natAbs=0
 . rw[z];simpa using hk
 . exact(Nat.log2_lt z).mpr h
theorem C2f{i:Int}(h:i.natAbs<2^1000):Builtin.Int.intBits i<=2^20:=by
 unfold Builtin.Int.intBits
 split
 . exact Nat.zero_le _
 . have:=V5 h (by decide)
   have e:(2:Nat)^20=1048576:=by decide
   omega
theorem U8{i j:Int}(h:i.natAbs<2^1000)(h':j.natAbs<2^1000):IntMulOk i j:=IntMulOk.of_bits (C2f h) (C2f h')
inductive TyE(K:Frag)(H:Hp):V ->Value ->Prop where
 |of {x:V} {t:Value} (h:TyOf K H x t):TyE K H x t
 |exc {a C t:Addr} {T:Value} {u:HO} (e:H a=some (.frz (A1b (.ref C) t none T) u)) (k:ExcK K C):TyE K H (.ref a) (.ref C)
 |excD {a C t:Addr} {T:Value} {d:Addr} {u:HO} {fs:List (Str×V)} (e:H a=some (.frz (A1b (.ref C) t (some d) T) u)) (hd:H d=some (.xd fs)) (k:ExcK K C):TyE K H (.ref a) (.ref C)
 |tupK {a:Addr} {o:Obj} (l:K.lookup a=some o) (c:o.cls= .type "tuple"):TyE K H (.ref a) (.type "tuple")
theorem G8a{pins:List (Addr×Obj)}{σ:St}{H:Hp}{s:Shared}{A:Around}{E:Value ->Shared ->Prop}{Q:Value ->Shared ->Prop}{c:Value}{b:Bool}{x:V}{u t:Value}(I:Inv X pins σ H s)(rx:RelV x u)(ty:TyE X.K H x t)
   (e:kitOne X.K t c=some b) (h:∀tk,Q (.bool b) {s with toks:=tk}):wpAny (model X.prog X.w) A (call (.builtin "isinstance") [u,c]) Q E s:=by
 cases ty with
 |of h'=>exact J9s I rx h' e h
 | exc ea k=>
   cases rx
   rename_i a C t0 T u0
   have o1:s.heap.get? a=some (A1b (.ref C) t0 none T):=(I.hok a _ ea).1
   refine kia_one (H:=fun h=>PySem.W.InstAt h a (A1b (.ref C) t0 none T) C none) ?_ I.kIn ⟨o1,rfl,rfl,trivial⟩ e (fun z=>nomatch z) h
   refine⟨fun M h _ J=>J.type,fun M h K _=>B4m K k.cl,fun h tp dd its n sl K htp=>?_,fun K J q=>A7u k K J q⟩
   refine Bool.eq_false_iff.mpr fun q=>?_
   have e:C=tp:=Value.ref.inj (beq_iff_eq.mp q)
   subst e
   have z:=k.cl
   unfold clsIn at z
   split at z
   . rename_i ho
     have y:=(K _ _ ho).symm.trans htp
     cases y
   . cases z
 | tupK l c=>
   cases rx
   exact PySem.W.kia_one PySem.W.kitx_tuple I.kIn ⟨_,I.kIn _ _ l,c⟩ e (fun z=>nomatch z) h
 | excD ea hd k=>
   cases rx
   rename_i a C t0 T d u0 fs
   have o1:s.heap.get? a=some (A1b (.ref C) t0 (some d) T):=(I.hok a _ ea).1
   obtain⟨mA,nA,_⟩:=(show∃mA,s.heap.Ns1 d mA/\∀f,RelO (fs.lookup f) (mA f) from I.hok d _ hd)
   obtain⟨od,o2,_⟩:=D0a nA
   refine kia_one (H:=fun h=>PySem.W.InstAt h a (A1b (.ref C) t0 (some d) T) C (some od)) ?_ I.kIn ⟨o1,rfl,rfl,o2⟩ e (fun z=>nomatch z) h
   refine⟨fun M h _ J=>J.type,fun M h K _=>B4m K k.cl,fun h tp dd its n sl K htp=>?_,fun K J q=>A7u k K J q⟩
   refine Bool.eq_false_iff.mpr fun q=>?_
   have e:C=tp:=Value.ref.inj (beq_iff_eq.mp q)
   subst e
   have z:=k.cl
   unfold clsIn at z
   split at z
   . rename_i ho
     have y:=(K _ _ ho).symm.trans htp
     cases y
   . cases z
noncomputable def Z1t:V ->Option Value
 | .ty n=>some (.type n)
 | .ref a=>some (.ref a)
 |_=>none
theorem G2k:A7z X (.builtin "isinstance") (fun xs H Q=>∃x c cv t b,xs=[x,c]/\Z1t c=some cv/\TyE X.K H x t/\kitOne X.K t cv=some b/\Q (.bl b) H):=by
 intro pins s σ H xs us Q I r h
 obtain⟨x,c,cv,t,b,rfl,hc,ty,e,q⟩:=h
 obtain⟨u,v,rfl,ru,rv⟩:=Vals.two r
 have:v=cv:=by
   cases c<;>simp only[Z1t] at hc<;>first|(cases hc;exact rv)|cases hc
 subst this
 exact G8a I ru ty e fun tk=>⟨.bl b,H,I.tok tk,rfl,q⟩
mutual
inductive RdD(K:Frag)(H:Hp):V ->PyData ->Prop where
 |non:RdD K H .non .none
 |bl (b:Bool):RdD K H (.bl b) (.bool b)
 |int (i:Int):RdD K H (.int i) (.int i)
 |str (x:Str):RdD K H (.str x) (.str x)
 |tup {a:Addr} {xs:List V} {ds:List PyData} (h:SqT K H a xs) (r:RdDs K H xs ds):RdD K H (.ref a) (.tuple ds)
 |lst {a:Addr} {xs:List V} {ds:List PyData} (h:SqL K H a xs) (r:RdDs K H xs ds):RdD K H (.ref a) (.list ds)
inductive RdDs(K:Frag)(H:Hp):List V ->List PyData ->Prop where
 |nil:RdDs K H [] []
 |cons {x:V} {xs:List V} {d:PyData} {ds:List PyData} (h:RdD K H x d) (r:RdDs K H xs ds):RdDs K H (x::xs) (d::ds)
end
mutual
theorem RdD.reads{pins:List (Addr×Obj)}{σ:St}{H:Hp}{s:Shared}(I:Inv X pins σ H s):∀{x:V} {d:PyData} {u:Value},RdD X.K H x d ->RelV x u ->∃as,Reads s.heap u d as
 |_,_,_,.non,r=>by cases r;exact⟨_,.none⟩
 |_,_,_,.bl b,r=>by cases r;exact⟨_,.bool b⟩
 |_,_,_,.int i,r=>by obtain⟨t,rfl⟩:=r;exact⟨_,.int i t⟩
 |_,_,_,.str x,r=>by obtain⟨t,rfl⟩:=r;exact⟨_,.str x t⟩
 | _,_,_,.tup h q,r=>by
   cases r
   obtain⟨its,rv,⟨o,e,c,n,d⟩,_⟩:=I.tuple h
   obtain⟨as,z⟩:=RdDs.reads I q rv
   exact⟨_,reads_tuple_at e c d (by simpa using z)⟩
 | _,_,_,.lst h q,r=>by
   cases r
   obtain⟨its,rv,p,_⟩:=I.list h
   obtain⟨o,e,c,n,d⟩:=p.isList
   obtain⟨as,z⟩:=RdDs.reads I q rv
   exact⟨_,reads_list_at e c d (by simpa using z)⟩
theorem RdDs.reads{pins:List (Addr×Obj)}{σ:St}{H:Hp}{s:Shared}(I:Inv X pins σ H s):∀{xs:List V} {ds:List PyData} {us:List Value},RdDs X.K H xs ds ->Vals xs us ->∃as,ReadsAll s.heap us ds as
 |_,_,_,.nil,r=>by cases r;exact⟨_,.nil⟩
 | _,_,_,.cons h q,r=>by
   cases r with
   | cons r1 r2=>
     obtain⟨as,z⟩:=RdD.reads I h r1
     obtain⟨bs,y⟩:=RdDs.reads I q r2
     exact⟨_,.cons z y⟩
end
noncomputable def Z7d (K:Frag) (n:Bool):R2:=fun x y H Q=>∃d e,RdD K H x d/\RdD K H y e/\SeqAt.shaped d=true/\SeqAt.shaped e=true/\Q (.bl (if n then !PyData.eqv d e else PyData.eqv d e)) H
theorem D2u(hu:X.A.units+64<cLine):OpR X (compareOp .Eq) (Z7d X.K false):=by
 intro pins s σ H x y v u Q I rx ry q
 obtain⟨d,e,hx,hy,sd,se,q⟩:=q
 obtain⟨as,z⟩:=hx.reads I rx
 obtain⟨bs,z'⟩:=hy.reads I ry
 exact eq_dataH z z' sd se hu ⟨.bl (PyData.eqv d e),H,I,rfl,q⟩
theorem U8j(hu:X.A.units+64<cLine):OpR X (compareOp .NotEq) (Z7d X.K true):=by
 intro pins s σ H x y v u Q I rx ry q
 obtain⟨d,e,hx,hy,sd,se,q⟩:=q
 obtain⟨as,z⟩:=hx.reads I rx
 obtain⟨bs,z'⟩:=hy.reads I ry
 exact ne_dataH z z' sd se hu ⟨.bl (!PyData.eqv d e),H,I,rfl,q⟩
inductive FPart(X:Cx):Expr ->TE ->Prop where
 |lit {x:Str} {j:Nat} {pos:Pos}:FPart X (.Constant (.str x) j pos) (tC (.str x))
 |int {v:Expr} {tv:TE} {pos:Pos} (h:PE X v tv):FPart X (.FormattedValue v (-1) none pos) (fun σ H Q=>tv σ H fun y H1=>∃i,y= .int i/\i.natAbs.log2<1920/\Q (.str (toString i)) H1)
theorem FPart.pe{e:Expr}{t:TE}(h:FPart X e t):PE X e t:=by
 cases h with
 |lit=>exact B9
 | int h=>
   intro pins s σ H Q I q
   refine FormattedValue_plain (thn (h pins s σ H _ I q) fun u s1 hh_=>?_)
   obtain⟨y,H1,I1,r,i,e,l,q⟩:=hh_
   subst e
   obtain⟨t,rfl⟩:=r
   exact formatField_int_small l ⟨.str (toString i),H1,I1.tok _,⟨_,rfl⟩,q⟩
inductive FParts(X:Cx):List Expr ->(Str ->TE) ->Prop where
 |nil:FParts X [] (fun out _ H Q=>out.length<=sizeLine/\Q (.str out) H)
 |cons {e:Expr} {es:List Expr} {t:TE} {r:Str ->TE} (h:FPart X e t) (hr:FParts X es r):FParts X (e::es) (fun out σ H Q=>t σ H fun x H1=>∃y,x= .str y/\(out++y).length<=sizeLine/\r (out++y) σ H1 Q)
theorem FParts.run{es:List Expr}{t:Str ->TE}(h:FParts X es t):∀(out:Str) (pins:List (Addr×Obj)) (s:Shared) (σ:St) (H:Hp) (Q:VK),Inv X pins σ H s ->t out σ H Q ->
   wpAny (model X.prog X.w) X.A (joinParts out (evalEach es X.env)) (EP X pins σ Q) X.xe s:=by
 induction h with
 | nil=>
   intro out pins s σ H Q I q
   exact joinParts_nil ⟨.str out,H,I.tok _,⟨_,rfl⟩,q.2⟩ q.1
 | @cons e es t r h hr ih=>
   intro out pins s σ H Q I q
   show wpAny _ _ (joinParts out (eval e X.env::evalEach es X.env)) _ _ _
   refine joinParts_cons (thn (h.pe pins s σ H _ I q) fun u s1 hh_=>?_)
   obtain⟨x,H1,I1,rx,y,ey,z,q⟩:=hh_
   subst ey
   obtain⟨t',rfl⟩:=rx
   exact⟨z,ih _ pins s1 σ H1 Q I1 q⟩
theorem J7g{e1 e2:Expr}{es:List Expr}{t:Str ->TE}{pos:Pos}(h:FParts X (e1::e2::es) t):PE X (.JoinedStr (e1::e2::es) pos) (t Str.empty):=by
 intro pins s σ H Q I q
 exact JoinedStr_many (h.run _ pins s σ H Q I q)
end
section
variable{P:Program}{w:World}{K:Frag}{mg:Str ->Option Value}{base:Heap}
end
section
variable{X:Cx}{k:Nat}{f:Addr}{fd:FuncData}{ps:List Str}{sp:Sp}{x:Str}{p pos:Pos}{e:Expr}{es:List Expr}{t:TA}
end
noncomputable abbrev EKF:EK:=fun _ _ _ _=>False
theorem U2{X:Cx}:G5 X EKF:=fun _ _ _ _ _ _ _ _ _ _ h=>h.elim
structure Def(K:Frag)(mg:Str ->Option Value)(x:Str)(ps:List Str)(st:Stmt)(f:Addr)(fd:FuncData):Prop where
 F:Fun K x x st f fd
 g:mg x=some (.ref f)
 b:Binds K fd ps []
theorem G0{K:Frag}{h:Heap}{mg:Str ->Option Value}{x:Str}{ps:List Str}{st:Stmt}{f:Addr}{oc:Value}{od an:Option Addr}{osl:Array (Option Value)}{kV doc pm cdv ct:Value}(X:K.In h)(G:h.Ns mainGlobals mg)
   (a:nsIn K mainGlobals x=some (some (.ref f))) (l:K.lookup f=some ⟨oc,od,.func (fnOf x x (B0 st) (A9 st) (A2 st) .none kV doc pm an cdv ct),osl⟩) (c:codeIn K cdv x=true) (k:keepIn K (.ref f)=true)
   (hb:∀(kV doc pm:Value) (an:Option Addr) (cdv ct:Value) (us:List Value),us.length=ps.length ->bindArgs (fnOf x x (B0 st) (A9 st) (A2 st) .none kV doc pm an cdv ct) ⟨us,[]⟩=pure (ps.zip us)):
   Def K mg x ps st f (fnOf x x (B0 st) (A9 st) (A2 st) .none kV doc pm an cdv ct):=
 ⟨J0 (st:=st) l c k,mg_of X G a,(J0 (st:=st) l c k).binds hb⟩
theorem J7{c A B:Prop} [Decidable c] (h:¬c) (b:B):if decide c=true then A else B:=by rw[decide_eq_false h];exact J4 b
theorem U7{c A B:Prop} [Decidable c] (h:c) (a:A):if decide c=true then A else B:=by rw[decide_eq_true h];exact V2 a
theorem V0{c A B:Prop} [Decidable c] (a:c ->A) (b:¬c ->B):if decide c=true then A else B:=by
 by_cases h:c
 . exact U7 h (a h)
 . exact J7 h (b h)
noncomputable def Z5v (t:TS):TS:=fun D σ H=>∃J:St ->Hp ->Prop,t {D with nx:=J} σ H/\∀σ' H',J σ' H' ->D.nx σ' H'
theorem B7{X:Cx}{st:Stmt}{t:TS}(h:PS X st t):PS X st (Z5v t):=by
 intro pins s σ H D I q
 obtain⟨J,q,k⟩:=q
 refine thn (h pins s σ H _ I q) fun f s' z=>?_
 cases f with
 |next=>obtain⟨σ',H',I',y⟩:=z;exact⟨σ',H',I',k _ _ y⟩
 |brk=>exact z
 |cont=>exact z
 |ret u=>exact z
theorem ixs{xs:List Int}{i:Int}(h0:0<=i)(h1:i<xs.length):∃v,v∈xs/\atI (xs.map V.int) i=some (.int v):=by
 obtain⟨j,rfl⟩:=Int.eq_ofNat_of_zero_le h0
 have hj:j<xs.length:=by omega
 exact⟨xs[j],List.getElem_mem hj,C0 (by simp[hj])⟩
theorem ixv{xs:List V}{i:Int}(h0:0<=i)(h1:i<xs.length):∃v,v∈xs/\atI xs i=some v:=by
 obtain⟨j,rfl⟩:=Int.eq_ofNat_of_zero_le h0
 have hj:j<xs.length:=by omega
 exact⟨xs[j],List.getElem_mem hj,C0 (by simp[hj])⟩
theorem Same.upd{H:Hp}{p:Addr}{o:HO}(h:H p=none):Same H (L2.upd H p o):=fun b u e=>by rw[C9 (D0 e h)];exact e
theorem C7{n:Nat}(h:n<=1000):n<=sizeLine:=Nat.le_of_lt (V9 h)
section
variable{X:Cx}{k j:Nat}{f:Addr}{fd:FuncData}{ps:List Str}{sp:Sp}{EH:EK}{x:Str}{st:Stmt}{p pos:Pos}{e:Expr}{es:List Expr}{t:TA}
theorem C8(D:Def X.K X.mg x ps st f fd)(F:FnOk X.prog X.w X.K X.mg X.base (CX1 X.prog X.w) j f fd ps sp)(hr:Room k X.A)(hx:G5 X EH)(ha:PA X (e::es) t)(hj:j<=k:=by decide)(hg:Gl X x:=by rfl)(hex:X.ex=[]:=by rfl)(hdb:(x==("__debug__":Str))=false:=by decide)
   (he:starEach (e::es) X.env=(false,eval e X.env)::starEach es X.env:=by rfl) (hpl:(backTo pos (starEach es X.env)).any (·.1)=false:=by rfl):PE X (.Call (.Name x p) (e::es) [] pos) (D2c sp [] EH t):=
 U8k (F.mono hj) hr hg D.g D.F.kp D.b .nil hx ha hex hdb he hpl
theorem Y9v(D:Def X.K X.mg x ps st f fd)(F:FnOk X.prog X.w X.K X.mg X.base (CX1 X.prog X.w) j f fd ps sp)(hr:Room k X.A)(hx:G5 X EH)(hj:j<=k:=by decide)(hg:Gl X x:=by rfl)(hex:X.ex=[]:=by rfl)(hdb:(x==("__debug__":Str))=false:=by decide):
   PE X (.Call (.Name x p) [] [] pos) (D2c sp [] EH U8d):=
 U0h (F.mono hj) hr hg D.g D.F.kp D.b .nil hx hex hdb
theorem pty{n:Str}{T:String}(hm:X.mg n=none)(hv:bootBuiltins n=some (.type T))(hg:Gl X n:=by rfl)(hn:n≠"__name__":=by decide)(hdb:(n==("__debug__":Str))=false:=by decide):PE X (.Name n pos) (tC (.ty T)):=Y4s hg hm hv rfl hn hdb
theorem Z0s{n:Str}{C:Addr}(hm:X.mg n=some (.ref C))(hg:Gl X n:=by rfl)(hdb:(n==("__debug__":Str))=false:=by decide):PE X (.Name n pos) (tC (.ref C)):=Y5s hg hm rfl hdb
theorem U0p{a b:Expr}{ta tb:TE}(hm:X.mg "isinstance"=none)(ha:PE X a ta)(hb:PE X b tb)(hg:Gl X "isinstance":=by rfl)
   (h1:starEach [a,b] X.env=(false,eval a X.env)::starEach [b] X.env:=by rfl) (h2:starEach [b] X.env=(false,eval b X.env)::starEach [] X.env:=by rfl) (h3:(backTo pos (starEach [b] X.env)).any (·.1)=false:=by rfl):
   PE X (.Call (.Name "isinstance" p) [a,b] [] pos) (tCB (fun xs H Q=>∃x c cv t b,xs=[x,c]/\Z1t c=some cv/\TyE X.K H x t/\kitOne X.K t cv=some b/\Q (.bl b) H) (U6h ta (U6h tb U8d))):=
 J2 G2k hg hm boot_isinstance (A0 ha (A0 hb A5 h2) h1) (he:=h1) (hpl:=h3)
end
section
variable{X:Cx}{k j:Nat}{f:Addr}{fd:FuncData}{ps:List Str}{sp:Sp}{x:Str}{st:Stmt}{p pos:Pos}{e:Expr}{es:List Expr}{t:TA}
end
structure Mk0(K:Frag)(C:Addr):Prop where
 makes:makesIn K C=true
 init:findIn K (.ref C) "__init__"=some (some (.builtin "object.__init__"))
 kp:keepIn K (.ref C)=true
section
variable{X:Cx}{k j:Nat}{f C:Addr}{fd:FuncData}{ps:List Str}{sp:Sp}{dvs:List V}{ds:List Value}{EH:EK}{x m:Str}{p pos apos:Pos}{e o:Expr}{es:List Expr}{ta:TE}{t:TA}
noncomputable def Y9f (C:Addr):TE:=fun _ H Q=>∀x dx,H x=none ->H dx=none ->dx≠x ->Q (.ref x) (upd (upd H dx (.own x)) x (.ins C dx []))
theorem Y4y{pins:List (Addr×Obj)}{σ:St}{H:Hp}{s:Shared}{Q:VK}(M:Mk0 X.K C)(I:Inv X pins σ H s)(h:Y9f C σ H Q):wpAny (model X.prog X.w) X.A (call (.ref C) []) (EP X pins σ Q) X.xe s:=by
 have hq:=h (s.heap.objs.size+1) s.heap.objs.size (I.hok.fresh (Nat.le_succ _)) (I.hok.fresh (Nat.le_refl _)) (Nat.ne_of_lt (Nat.lt_succ_self _))
 have I2:=Inv.made (C:=C) I
 have Y:=makes_of (M:=model X.prog X.w) I.kIn M.makes
 refine wpAny_call (J8t I.kIn M.makes M.init (fun self=>Looks.of_pure (oi_bind self)) ?_)
 have e2:((s.heap.push emptyDict).push (instObj C s.heap.objs.size)).get? (s.heap.objs.size+1)=some (instObj C s.heap.objs.size):=by
   have:=Heap.get?_push_size (s.heap.push emptyDict) (o:=instObj C s.heap.objs.size) rfl
   rwa[Heap.size_push] at this
 have t1:Looks (model X.prog X.w) ((s.heap.push emptyDict).push (instObj C s.heap.objs.size)) (typeOf (.ref (s.heap.objs.size+1))) (.ref C):=(Looks.ld e2).andThen .now
 have t2:Looks (model X.prog X.w) ((s.heap.push emptyDict).push (instObj C s.heap.objs.size)) (isInstance (.ref (s.heap.objs.size+1)) (.type "object")) true:=t1.andThen (Y.top.keeps fun b o e=>Heap.get?_push_of_some _ (Heap.get?_push_of_some _ e))
 refine codeAny_call_builtin oi_plain entry_oi (@check_slot (model X.prog X.w) _ _ _ "object.__init__" "object" "__init__" (.ref (s.heap.objs.size+1)) [] [] _ oi_kind oi_split t2 (oi_args (.ref (s.heap.objs.size+1))) ?_)
 rw[oi_run]
 exact wpAny_pure (And.intro rfl ⟨V.ref (s.heap.objs.size+1),_,I2,rfl,hq⟩)
theorem A8h(M:Mk0 X.K C)(hg:Gl X x)(hm:X.mg x=some (.ref C))(hdb:(x==("__debug__":Str))=false:=by decide):PE X (.Call (.Name x p) [] [] pos) (Y9f C):=by
 intro pins s σ H Q I h
 refine wpAny_Call_Name_kw (A3b I hg hm ?_ hdb)
 exact callWith_K0 I.kIn M.kp (Y4y M I h)
noncomputable def U7s (C:Addr) (m:Str) (sp:Sp) (dvs:List V) (EH:EK) (ta:TE) (t:TA):TE:=fun σ H Q=>ta σ H fun x H1=>∃a dx fs,x= .ref a/\H1 a=some (.ins C dx fs)/\fs.lookup m=none/\
 t σ H1 fun vs H2=>sp (x::(vs++dvs)) H2 Q (fun C d H'=>EH C d σ H')
theorem D0c{pl:Sem Bool}(he:PE X o ta)(c:Cls X.K C)(hm:Meth X.K C m f)(F:FnOk X.prog X.w X.K X.mg X.base (CX1 X.prog X.w) j f fd ps sp)(hr:Room k X.A)(hb:Binds X.K fd ps ds)(hd:Vals dvs ds)(hx:G5 X EH)(ha:PA X (e::es) t)
   (hj:j<=k:=by decide) (hex:X.ex=[]:=by rfl)
   (hst:starEach (e::es) X.env=(false,eval e X.env)::starEach es X.env:=by rfl) (hpl:(backTo pos (starEach es X.env)).any (·.1)=false:=by rfl)
   (ht:eval (.Call (.Attribute o m apos) (e::es) [] pos) X.env=(do
     let ov<-eval o X.env
     standAt apos.atName
     let(f,first)<-holding [ov] (getMethod ov m pl)
     callWith pos f first (backTo pos (starEach (e::es) X.env)) (backToKw pos (keywordEach [] X.env))):=by rfl):
   PE X (.Call (.Attribute o m apos) (e::es) [] pos) (U7s C m sp dvs EH ta t):=by
 intro pins s σ H Q I h
 refine methodCall_KW (pl:=pl) (thn (he pins s σ H _ I h) fun u s1 hh_=>?_) ht
 obtain⟨x,H1,I1,rx,a,dx,fs,ex,ea,l,q⟩:=hh_
 subst ex
 obtain rfl:u=Value.ref a:=rx
 refine C0q I1 ea c hm l ?_
 refine callWith_K (first:=[.ref a]) (h₀:=X.base) I.ok.mod.kin hm.kp (thn (ha pos pins s1 σ H1 _ I1 q) fun us s2 ⟨vs,H2,I2,r,q2⟩=>⟨I2.kIn,?_⟩) hst hpl
 exact C0d (us:= .ref a::us) (vs:= .ref a::vs) (F.mono hj) hr hb hd hx hex I2 (.cons rfl r) q2
theorem A4x{pl:Sem Bool}(he:PE X o ta)(c:Cls X.K C)(hm:Meth X.K C m f)(F:FnOk X.prog X.w X.K X.mg X.base (CX1 X.prog X.w) j f fd ps sp)(hr:Room k X.A)(hb:Binds X.K fd ps ds)(hd:Vals dvs ds)(hx:G5 X EH)
   (hj:j<=k:=by decide) (hex:X.ex=[]:=by rfl)
   (ht:eval (.Call (.Attribute o m apos) [] [] pos) X.env=(do
     let ov<-eval o X.env
     standAt apos.atName
     let(f,first)<-holding [ov] (getMethod ov m pl)
     callWith pos f first (backTo pos (starEach [] X.env)) (backToKw pos (keywordEach [] X.env))):=by rfl):
   PE X (.Call (.Attribute o m apos) [] [] pos) (U7s C m sp dvs EH ta U8d):=by
 intro pins s σ H Q I h
 refine methodCall_KW (pl:=pl) (thn (he pins s σ H _ I h) fun u s1 hh_=>?_) ht
 obtain⟨x,H1,I1,rx,a,dx,fs,ex,ea,l,q⟩:=hh_
 subst ex
 obtain rfl:u=Value.ref a:=rx
 refine C0q I1 ea c hm l ?_
 exact callWith_K0 (first:=[.ref a]) I1.kIn hm.kp (C0d (us:=[.ref a]) (vs:=[.ref a]) (F.mono hj) hr hb hd hx hex I1 (.cons rfl .nil) q)
noncomputable def Y9u (C:Addr) (sp:Sp) (dvs:List V) (EH:EK) (t:TA):TE:=fun σ H Q=>t σ H fun vs H1=>∀x dx,H1 x=none ->H1 dx=none ->dx≠x ->
 sp (.ref x::(vs++dvs)) (upd (upd H1 dx (.own x)) x (.ins C dx [])) (fun v H2=>v= .non/\Q (.ref x) H2) (fun C d H'=>EH C d σ H')
theorem U0a{pins:List (Addr×Obj)}{σ:St}{H:Hp}{s:Shared}{Q:VK}{us:List Value}{vs:List V}(M:Mk X.K C f)(F:FnOk X.prog X.w X.K X.mg X.base (CX1 X.prog X.w) k f fd ps sp)(hr:Room (k+1) X.A)(hb:Binds X.K fd ps ds)(hd:Vals dvs ds)
   (hx:G5 X EH) (hex:X.ex=[]) (I:Inv X pins σ H s) (r:Vals vs us)
   (h:∀x dx,H x=none ->H dx=none ->dx≠x ->sp (.ref x::(vs++dvs)) (upd (upd H dx (.own x)) x (.ins C dx [])) (fun v H2=>v= .non/\Q (.ref x) H2) (fun C d H'=>EH C d σ H')):
   wpAny (model X.prog X.w) X.A (call (.ref C) us) (EP X pins σ Q) X.xe s:=by
 have hq:=h (s.heap.objs.size+1) s.heap.objs.size (I.hok.fresh (Nat.le_succ _)) (I.hok.fresh (Nat.le_refl _)) (Nat.ne_of_lt (Nat.lt_succ_self _))
 have I2:=Inv.made (C:=C) I
 have r2:Vals (V.ref (s.heap.objs.size+1)::(vs++dvs)) (Value.ref (s.heap.objs.size+1)::(us++ds)):= .cons rfl (r.append hd)
 have hl:(Value.ref (s.heap.objs.size+1)::us++ds).length=ps.length:=by
   have e:=r2.length
   rw[F.len _ _ _ _ hq] at e
   exact e.symm
 refine wpAny_call (G3f (f:=f) I.kIn M.makes M.init (beq_iff_eq.mp M.fn) (codeAny_mono (F.run _ X.stack _ _ ⟨Value.ref (s.heap.objs.size+1)::us,[]⟩ (Value.ref (s.heap.objs.size+1)::(us++ds)) _ _ _ (hr.make C us [])
   (I2.env0.make C us []) (hb _ (Value.ref (s.heap.objs.size+1)::us) I2.kIn hl) r2 hq) fun r s' hq'=>?_))
 cases r with
 |error e=>exact Z4x hx hex I2 hq'
 | ok fl=>
   cases fl with
   | ret u=>
     obtain⟨v,H',I3,rv,ev,q3⟩:=I2.after hq'
     subst ev
     exact⟨rv,⟨V.ref (s.heap.objs.size+1),H',I3,rfl,q3⟩⟩
   |next=>exact False.elim hq'
   |brk=>exact False.elim hq'
   |cont=>exact False.elim hq'
theorem B2m(M:Mk X.K C f)(F:FnOk X.prog X.w X.K X.mg X.base (CX1 X.prog X.w) j f fd ps sp)(hr:Room k X.A)(hm:X.mg x=some (.ref C))(hb:Binds X.K fd ps ds)(hd:Vals dvs ds)(hx:G5 X EH)
   (ha:PA X (e::es) t) (hj:j+1<=k:=by decide) (hg:Gl X x:=by rfl) (hex:X.ex=[]:=by rfl) (hdb:(x==("__debug__":Str))=false:=by decide) (he:starEach (e::es) X.env=(false,eval e X.env)::starEach es X.env:=by rfl) (hpl:(backTo pos (starEach es X.env)).any (·.1)=false:=by rfl):
   PE X (.Call (.Name x p) (e::es) [] pos) (Y9u C sp dvs EH t):=by
 intro pins s σ H Q I h
 refine wpAny_Call_Name_kw (A3b I hg hm ?_ hdb)
 refine callWith_K (h₀:=X.base) I.ok.mod.kin M.kp (thn (ha pos pins s σ H _ I h) fun us s1 ⟨vs,H1,I1,r,q⟩=>⟨I1.kIn,?_⟩) he hpl
 exact U0a M F (hr.mono hj) hb hd hx hex I1 r q
end
theorem Y5h{n:Nat}(h:n<=sizeLine):Builtin.Str.tooLong n=false:=by
 unfold Builtin.Str.tooLong
 exact decide_eq_false (by omega)
section
variable{X:Cx}
end
structure FunD(K:Frag)(x qual:Str)(st:Stmt)(dV:Value)(f:Addr)(fd:FuncData):Prop where
 ex:∃(oc:Value) (od:Option Addr) (kV doc pm:Value) (an:Option Addr) (cdv ct:Value) (osl:Array (Option Value)),
   fd=fnOf x qual (B0 st) (A9 st) (A2 st) dV kV doc pm an cdv ct/\K.lookup f=some ⟨oc,od,.func fd,osl⟩/\codeIn K cdv qual=true
 kp:keepIn K (.ref f)=true
section
variable{P:Program}{w:World}{K:Frag}{mg:Str ->Option Value}{base:Heap}
theorem FunD.okE{x qual:Str}{st:Stmt}{dV:Value}{f:Addr}{fd:FuncData}{N ps:List Str}{k:Nat}{sp:Sp}(F:FunD K x qual st dV f fd)(S:FnScope N ps (A2 st))(len:∀vs H Q E,sp vs H Q E ->vs.length=ps.length)
   (hbody:∀(X:Cx) (cdv:Value) (A:Around) (outer:List Env) (s:Shared) (H:Hp) (vs:List V) (Q:VK) (E:XK),X=A0a (CX1 P w) P w K mg base N qual (A2 st) f cdv A outer s H E ->Room k X.A ->G5 X (fun C dd _ H'=>E C dd H') ->sp vs H Q E ->
     ∃t,PSs (A0a (CX1 P w) P w K mg base N qual (A2 st) f cdv A outer s H E) (A9 st) t/\t {nx:=fun _ H'=>Q .non H',rt:=Q} (B2h N vs) H):FnOk P w K mg base (CX1 P w) (k+1) f fd ps sp:=by
 obtain⟨oc,od,kV,doc,pm,an,cdv,ct,osl,rfl,lk,hc⟩:=F.ex
 exact U7n lk hc S len fun A outer s H vs Q E hr h=>hbody _ cdv A outer s H vs Q E rfl hr C1j h
theorem D2g{x qual:Str}{st:Stmt}{dV:Value}{f:Addr}{oc:Value}{od an:Option Addr}{osl:Array (Option Value)}{kV doc pm cdv ct:Value}(l:K.lookup f=some ⟨oc,od,.func (fnOf x qual (B0 st) (A9 st) (A2 st) dV kV doc pm an cdv ct),osl⟩)
   (c:codeIn K cdv qual=true) (k:keepIn K (.ref f)=true):FunD K x qual st dV f (fnOf x qual (B0 st) (A9 st) (A2 st) dV kV doc pm an cdv ct):=⟨⟨oc,od,kV,doc,pm,an,cdv,ct,osl,rfl,l,c⟩,k⟩
theorem C0z{fd:FuncData}{ps:List Str}{ds:List Value}{T:Addr}{o:Obj}{items:Array Value}{n:Nat}(hd:fd.defaults= .ref T)(ho:K.lookup T=some o)(hs:o.data= .seq items n)
   (h:∀us:List Value,(us++ds).length=ps.length ->∃k,bindArgs fd ⟨us,[]⟩=seqItems? fd.defaults>>=k/\k (some items)=pure (ps.zip (us++ds))):Binds K fd ps ds:=fun s us X hl=>by
 obtain⟨k,h1,h2⟩:=h us hl
 exact binds_K X hd ho hs h1 h2
end
section
variable{X:Cx}{k j:Nat}{f C:Addr}{fd:FuncData}{ps ks:List Str}{sp:Sp}{EH:EK}{x m:Str}{p pos apos:Pos}{e o:Expr}{es:List Expr}{kws:List Keyword}{ta:TE}{t tk:TA}{g:List Value ->List Value ->List Value}{gV:List V ->List V ->List V}
end
section
variable{X:Cx}{K:Frag}{e:Expr}{f:Str}{pos:Pos}{ta:TE}
theorem G7g(h:X.K=K):OpR X (compareOp .In) (rIn K false):=by subst h;exact A4e
end
end L2
namespace TR
open PySem L2 PySem.W PyProof.Rows
structure Own(mg:Str ->Option Value):Prop where
 isi:mg "isinstance"=none
 int_:mg "int"=none
 bool_:mg "bool"=none
 str_:mg "str"=none
 list_:mg "list"=none
 tuple_:mg "tuple"=none
 dict_:mg "dict"=none
 len_:mg "len"=none
 range_:mg "range"=none
 min_:mg "min"=none
 max_:mg "max"=none
 abs_:mg "abs"=none
 any_:mg "any"=none
 all_:mg "all"=none
 sum_:mg "sum"=none
 repr_:mg "repr"=none
 enumerate_:mg "enumerate"=none
 reversed_:mg "reversed"=none
 zip_:mg "zip"=none
 sorted_:mg "sorted"=none
 divmod_:mg "divmod"=none
 set_:mg "set"=none
 ValueError_:mg "ValueError"=none
structure Kit(K:Frag):Prop where
 int_int:kitOne K (.type "int") (.type "int")=some true
 int_bool:kitOne K (.type "int") (.type "bool")=some false
 int_str:kitOne K (.type "int") (.type "str")=some false
 int_list:kitOne K (.type "int") (.type "list")=some false
 int_tuple:kitOne K (.type "int") (.type "tuple")=some false
 int_dict:kitOne K (.type "int") (.type "dict")=some false
 bool_int:kitOne K (.type "bool") (.type "int")=some true
 bool_bool:kitOne K (.type "bool") (.type "bool")=some true
 bool_str:kitOne K (.type "bool") (.type "str")=some false
 bool_list:kitOne K (.type "bool") (.type "list")=some false
 bool_tuple:kitOne K (.type "bool") (.type "tuple")=some false
 bool_dict:kitOne K (.type "bool") (.type "dict")=some false
 str_int:kitOne K (.type "str") (.type "int")=some false
 str_bool:kitOne K (.type "str") (.type "bool")=some false
 str_str:kitOne K (.type "str") (.type "str")=some true
 str_list:kitOne K (.type "str") (.type "list")=some false
 str_tuple:kitOne K (.type "str") (.type "tuple")=some false
 str_dict:kitOne K (.type "str") (.type "dict")=some false
 list_int:kitOne K (.type "list") (.type "int")=some false
 list_bool:kitOne K (.type "list") (.type "bool")=some false
 list_str:kitOne K (.type "list") (.type "str")=some false
 list_list:kitOne K (.type "list") (.type "list")=some true
 list_tuple:kitOne K (.type "list") (.type "tuple")=some false
 list_dict:kitOne K (.type "list") (.type "dict")=some false
 tuple_int:kitOne K (.type "tuple") (.type "int")=some false
 tuple_bool:kitOne K (.type "tuple") (.type "bool")=some false
 tuple_str:kitOne K (.type "tuple") (.type "str")=some false
 tuple_list:kitOne K (.type "tuple") (.type "list")=some false
 tuple_tuple:kitOne K (.type "tuple") (.type "tuple")=some true
 tuple_dict:kitOne K (.type "tuple") (.type "dict")=some false
 dict_int:kitOne K (.type "dict") (.type "int")=some false
 dict_bool:kitOne K (.type "dict") (.type "bool")=some false
 dict_str:kitOne K (.type "dict") (.type "str")=some false
 dict_list:kitOne K (.type "dict") (.type "list")=some false
 dict_tuple:kitOne K (.type "dict") (.type "tuple")=some false
 dict_dict:kitOne K (.type "dict") (.type "dict")=some true
 NoneType_int:kitOne K (.type "NoneType") (.type "int")=some false
 NoneType_bool:kitOne K (.type "NoneType") (.type "bool")=some false
 NoneType_str:kitOne K (.type "NoneType") (.type "str")=some false
 NoneType_list:kitOne K (.type "NoneType") (.type "list")=some false
 NoneType_tuple:kitOne K (.type "NoneType") (.type "tuple")=some false
 NoneType_dict:kitOne K (.type "NoneType") (.type "dict")=some false
theorem scK{N P:List Str}{sc:Scope}(a:sc.kind= .function:=by rfl)(b:sc.isCoroutine=false:=by rfl)(c:sc.isGenerator=false:=by rfl)(d:N.Nodup:=by decide+kernel)(e:N.take P.length=P:=by rfl)(f:∀x∈P,sc.names.lookup x=some .local\/sc.names.lookup x=some .cell:=by decide+kernel)(g:∀y∈sc.names,y.2≠ .free:=by decide+kernel):FnScope N P sc:=⟨a,b,c,d,e,f,g⟩
theorem Y8n{K:Frag}{H:Hp}(i:Int):TyE K H (.int i) (.type "int"):= .of (.int i)
theorem U8g{K:Frag}{H:Hp}(z:Str):TyE K H (.str z) (.type "str"):= .of (.str z)
theorem Y8q{K:Frag}{H:Hp}{a:Addr}{xs:List V}(h:H a=some (.lst xs)):TyE K H (.ref a) (.type "list"):= .of (.lst h)
noncomputable def G3h (lo hi:Int) (v:V):Prop:=∃i,v= .int i/\lo<=i/\i<=hi
noncomputable def G8k (K:Frag) (H:Hp) (lo hi:Int) (v:V):Prop:=∃t b1 b2,TyE K H v t/\kitOne K t (.type "int")=some b1/\kitOne K t (.type "bool")=some b2/\((b1&& !b2)=false\/∃i,v= .int i/\(i<lo\/hi<i))
section
variable{K:Frag}{H:Hp}{lo hi:Int}
end
noncomputable def Exc (p:Addr) (H H':Hp):Prop:=∀b o,H b=some o ->b≠p ->H' b=some o
theorem Exc.refl(p:Addr)(H:Hp):Exc p H H:=fun _ _ h _=>h
theorem Exc.trans{p:Addr}{H H1 H2:Hp}(a:Exc p H H1)(b:Exc p H1 H2):Exc p H H2:=fun c o h n=>b c o (a c o h n) n
theorem Exc.upd{p:Addr}{H:Hp}{o:HO}:Exc p H (L2.upd H p o):=fun b u e n=>by rw[C9 n];exact e
theorem Exc.of{p:Addr}{H H':Hp}(s:Same H H'):Exc p H H':=fun b o h _=>s b o h
noncomputable def Has (P:Program) (w:World) (K:Frag) (mg:Str ->Option Value) (base:Heap) (C:Addr) (m:Str) (k:Nat) (ps:List Str) (sp:Sp):Prop:=∃f fd,Meth K C m f/\FnOk P w K mg base (CX1 P w) k f fd ps sp/\Binds K fd ps []
theorem Z1u{us:List Value}(h:us.length=2):∃a b,us=[a,b]:=by
 obtain⟨a,t,rfl⟩:=List.exists_cons_of_length_eq_add_one h
 obtain⟨b,t,rfl⟩:=List.exists_cons_of_length_eq_add_one (Nat.succ.inj h)
 exact⟨a,b,by rw[List.eq_nil_of_length_eq_zero (Nat.succ.inj (Nat.succ.inj h))]⟩
theorem Y5g{us:List Value}(h:us.length=3):∃a b c,us=[a,b,c]:=by
 obtain⟨a,t,rfl⟩:=List.exists_cons_of_length_eq_add_one h
 obtain⟨b,c,e⟩:=Z1u (Nat.succ.inj h)
 exact⟨a,b,c,by rw[e]⟩
theorem Z6p{us:List Value}(h:us.length=4):∃a b c d,us=[a,b,c,d]:=by
 obtain⟨a,t,rfl⟩:=List.exists_cons_of_length_eq_add_one h
 obtain⟨b,c,d,e⟩:=Y5g (Nat.succ.inj h)
 exact⟨a,b,c,d,by rw[e]⟩
theorem len5{us:List Value}(h:us.length=5):∃a b c d e,us=[a,b,c,d,e]:=by
 obtain⟨a,t,rfl⟩:=List.exists_cons_of_length_eq_add_one h
 obtain⟨b,c,d,e,z⟩:=Z6p (Nat.succ.inj h)
 exact⟨a,b,c,d,e,by rw[z]⟩
theorem G7m{us ds:List Value}{n:Nat}(h:(us++ds).length=n):us.length=n-ds.length:=by rw[List.length_append] at h;omega
end TR
namespace L2
open PySem PySem.Spec PyProof.Rows
section
variable{κ:Type} [DecidableEq κ]
end
section
variable{P:Program}{w:World}{H:Hp}{h:Heap}{a:Addr}
end
section
variable{X:Cx}{pins:List (Addr×Obj)}{σ:St}{H:Hp}{s:Shared}{a:Addr}{y v:V}{u r:Value}{o:Option V}{A:Around}{E:Value ->Shared ->Prop}
end
section
variable{X:Cx}{pins:List (Addr×Obj)}{σ:St}{H:Hp}{s:Shared}{a:Addr}{kvs:List (Key×V)}{k:Key}{u:Value}{A:Around}{E:Value ->Shared ->Prop}
end
section
variable{X:Cx}{o i e value:Expr}{pos pos' tpos:Pos}{td ty tv:TE}
end
section
variable{X:Cx}{pos:Pos}
end
end L2
namespace L2
open PySem PySem.Spec PyProof.Rows PySem.W
noncomputable def B3b (F:List Str) (env:Env):List (Str×Addr):=F.map fun x=>(x,(env.cells.lookup x).getD 0)
noncomputable def C2g (js:List Nat) (σ:St):St:=js.map fun j=>(σ[j]?).getD none
noncomputable abbrev Cx.compF (X:Cx) (scope:Scope) (N F:List Str) (C:Addr) (s₀:Shared) (H₀:Hp) (ex:List Addr) (pins:List (Addr×Obj)):Cx:=
 {X with N:=N++F,s₀:=s₀,H₀:=H₀,env:=compEnvC scope (B3b F X.env) C X.env,outer:=X.stack,ex:=ex,fn:=fun _=>false,pn:=pins,xe:=fun _ _=>False}
structure CompScopeF(N F:List Str)(js:List Nat)(sc:Scope)(XN:List Str)(env:Env):Prop where
 kind:sc.kind= .function
 cell:∀y∈sc.names,y.2≠ .cell
 loc:∀y∈sc.names,y.2= .local ->sc.names.lookup y.1=some .local
 nd:(N++F).Nodup
 clos:closureFor sc env=pure (B3b F env)
 fr:∀y∈(relabel sc env).names,y.2= .cell\/y.2= .free ->y.1∈F
 at_:∀(k:Nat) (x:Str),F[k]?=some x ->(∃j:Nat,js[k]?=some j/\XN[j]?=some x)/\(∃c,env.cells.lookup x=some c)/\env.kindOf x=some .cell/\(relabel sc env).names.lookup x=some .cell
 jl:js.length=F.length
noncomputable def G7b (n:Nat) (js:List Nat) (wi:TI) (g:TG) (tc:TT) (te:TE):TE:=fun σ H Q=>wi σ H fun J H1=>∀D,H1 D=none ->
 ∃ (m:Nat) (W:Nat ->List V ->Hp ->Prop),W 0 [] (upd H1 D (.lst []))/\∀i ys H2,W i ys H2 ->i<=m/\H2 D=some (.lst ys)/\((J.stop i H2/\Q (.ref D) H2)\/(i<m/\J.go i H2/\∀x H3,J.yld i H2 x H3 ->
   g x (List.replicate n none++C2g js σ) H3 fun σ4 H4=>tc σ4 H4 fun b H5=>if b=true then te σ4 H5 fun y H6=>H6 D=some (.lst ys)/\ys.length<sizeLine/\W (i+1) (ys++ [y]) (upd H6 D (.lst (ys++ [y]))) else W (i+1) ys H5))
theorem Z0e{F:List Str}{env:Env}{x:Str}{c:Addr}(h:(B3b F env).lookup x=some c):x∈F/\c=(env.cells.lookup x).getD 0:=by
 have:=PySem.mem_of_lookup h
 obtain⟨y,hy,e⟩:=List.mem_map.mp this
 cases e
 exact⟨hy,rfl⟩
theorem U9x{env:Env}{x:Str}:∀{F:List Str},x∈F ->(B3b F env).lookup x=some ((env.cells.lookup x).getD 0)
 | y ::F,h=>by
   show List.lookup x ((y,(env.cells.lookup y).getD 0)::B3b F env)=_
   by_cases e:x=y
   . subst e;simp[List.lookup]
   . have hb:(x==y)=false:=beq_eq_false_iff_ne.mpr e
     rw[List.lookup_cons,hb]
     exact U9x (by rcases List.mem_cons.mp h with z|z;exact absurd z e;exact z)
section
variable{X:Cx}{N F:List Str}{js:List Nat}{scope:Scope}
theorem CompScopeF.sub(S:CompScopeF N F js scope X.N X.env):∀x c,(B3b F X.env).lookup x=some c ->X.env.cells.lookup x=some c:=fun x c z=>by
 obtain⟨hx,rfl⟩:=Z0e z
 obtain⟨k,hk⟩:=List.mem_iff_getElem?.mp hx
 obtain⟨_,⟨c,hc⟩,_⟩:=S.at_ k x hk
 rw[hc];rfl
theorem CompScopeF.has(S:CompScopeF N F js scope X.N X.env){x:Str}(hx:x∈F):∃c,(B3b F X.env).lookup x=some c/\X.env.cells.lookup x=some c:=
 ⟨_,U9x hx,S.sub _ _ (U9x hx)⟩
theorem D0w{pins:List (Addr×Obj)}{σ:St}{H:Hp}{s:Shared}(S:CompScopeF N F js scope X.N X.env)(I:Inv X pins σ H s){h':Heap}{m:Str ->Option Value}{C:Addr}(hc:∀x c v,X.env.cells.lookup x=some c ->s.heap.IsCell c v ->h'.IsCell c v):
   ∀(i:Nat) (x:Str) (v:V),(N++F)[i]?=some x ->(List.replicate N.length none++C2g js σ)[i]?=some (some v) ->∃u,RelV v u/\Z4t (compEnvC scope (B3b F X.env) C X.env) h' m x u:=by
 intro i x v e1 e2
 by_cases hi:i<N.length
 . rw[List.getElem?_append_left (by simpa using hi),List.getElem?_replicate] at e2
   split at e2<;>cases e2
 . rw[List.getElem?_append_right (by omega)] at e1
   rw[List.getElem?_append_right (by simp;omega)] at e2
   rw[List.length_replicate] at e2
   obtain⟨⟨j,hj,hx⟩,⟨c,hcc⟩,kx,kr⟩:=S.at_ _ x e1
   unfold C2g at e2
   rw[List.getElem?_map,hj] at e2
   have e2:(σ[j]?).getD none=some v:=Option.some.inj e2
   have e3:σ[j]?=some (some v):=by
     cases q:σ[j]? with
     |none=>rw[q] at e2;cases e2
     |some o=>rw[q] at e2;exact congrArg some e2
   obtain⟨m0,_,hl⟩:=I.loc
   obtain⟨u,r,l⟩:=hl j x v hx e3 (.inr (.inl kx))
   refine⟨u,r,.inr ⟨.inl kr,c,?_,?_⟩⟩
   . obtain⟨c',h1,h2⟩:=S.has (List.mem_of_getElem? e1)
     rw[hcc] at h2
     cases h2
     exact h1
   . rcases l with⟨k,_⟩|⟨_,c',h1,h2⟩
     . rw[kx] at k;cases k
     . rw[hcc] at h1
       cases h1
       exact hc x c _ hcc h2
theorem U7f(S:CompScopeF N F js scope X.N X.env)(σ:St):(List.replicate N.length none++C2g js σ:St).length=(N++F).length:=by
 unfold C2g
 rw[List.length_append,List.length_replicate,List.length_map,S.jl,List.length_append]
theorem J9z{pins:List (Addr×Obj)}{σ:St}{H:Hp}{s:Shared}{it:Addr}{h':Heap}(S:CompScopeF N F js scope X.N X.env)(I:Inv X pins σ H s)(hf:A4u X pins H it)(hit:∃o,s.heap.get? it=some o)(hnb:X.base.get? it=none)
   (hns:h'.Ns s.heap.objs.size (fun _=>none)) (hsb:∀b o,s.heap.get? b=some o ->h'.get? b=some o) {tk:Nat}:
   Inv (X.compF scope N F s.heap.objs.size s H [it] (X.pn++pins)) [] (List.replicate N.length none++C2g js σ) H {s with heap:=h',toks:=tk}:=by
 obtain⟨f0,f1,f2,f3,f4,f5⟩:=hf
 obtain⟨oi,ei⟩:=hit
 have lt:it<s.heap.objs.size:=Heap.lt_size ei
 have ck:∀c v,s.heap.IsCell c v ->h'.IsCell c v:=fun c v ⟨o,e,d⟩=>⟨o,hsb _ _ e,d⟩
 have inF:∀x,((compEnvC scope (B3b F X.env) s.heap.objs.size X.env).kindOf x=some .cell\/(compEnvC scope (B3b F X.env) s.heap.objs.size X.env).kindOf x=some .free) ->x∈F:=by
   intro x z
   have z:(relabel scope X.env).names.lookup x=some .cell\/(relabel scope X.env).names.lookup x=some .free:=z
   rcases z with z|z
   . exact S.fr _ (PySem.mem_of_lookup z) (.inl rfl)
   . exact S.fr _ (PySem.mem_of_lookup z) (.inr rfl)
 refine⟨⟨I.ok.mod,S.kind,I.ok.glob,I.ok.blt,Nat.le_refl _,fun x y c z z'=>I.ok.inj x y c (S.sub x c z) (S.sub y c z'),fun x z=>?_,fun x c z _=>(nomatch z),I.ok.hd,I.ok.frames,.inl rfl,fun b hb=>?_,I.bs,Nat.le_trans I.ok.bsz I.sz,fun b o e hb=>?_,fun b hb hfs=>?_,I.stack,I.stkFree⟩,
   rfl,I.bare,Un.kept hsb,⟨_,hns,fun i x v e1 e2 e3=>D0w S I (fun x c v _ z=>ck c v z) i x v e1 e2⟩,fun x c z=>?_,I.hok.fresh (Nat.le_refl _),fun x c z=>I.freeC x c (S.sub x c z),fun p hp=>?_,I.hok.kept hsb,U7f S σ⟩
 . obtain⟨c,h1,_⟩:=S.has (inF x z)
   exact⟨c,h1⟩
 . have e:b=it:=by simpa using hb
   subst e
   exact⟨Nat.ne_of_lt lt,fun x c z=>f4 x c (S.sub x c z)⟩
 . have e':b=it:=by simpa using hb
   subst e'
   rw[hnb] at e
   cases e
 . have e':b=it:=by simpa using hb
   subst e'
   rcases List.mem_cons.mp (I.stkSub b hfs) with z|z
   . exact f1 z
   . exact f2 z
 . obtain⟨v,z'⟩:=I.cell x c (S.sub x c z)
   exact⟨v,ck c v z'⟩
 . have hp':p∈X.pn++pins:=by simpa using hp
   obtain⟨q1,q2,q3,q4,q5⟩:=I.pin p hp'
   refine⟨hsb _ _ q1,q2,Nat.ne_of_lt (Heap.lt_size q1),fun z=>?_,q5⟩
   rcases List.mem_cons.mp (I.stkSub p.1 z) with z|z
   . exact q3 z
   . exact q4 z
theorem J9p{pins pl:List (Addr×Obj)}{σ σ':St}{H H':Hp}{s s':Shared}{it:Addr}(S:CompScopeF N F js scope X.N X.env)(I:Inv X pins σ H s)(hf:A4u X pins H it)(J:Inv (X.compF scope N F s.heap.objs.size s H [it] (X.pn++pins)) pl σ' H' s'):
   Inv (X.compF scope N F s.heap.objs.size s H [it] (X.pn++pins)) [] (List.replicate N.length none++C2g js σ) H' s':=by
 obtain⟨m,hn,_⟩:=J.loc
 refine⟨J.ok,J.os,J.bare,J.base,⟨m,hn,fun i x v e1 e2 e3=>D0w S I (fun x c v z q=>?_) i x v e1 e2⟩,J.cell,J.free,J.freeC,fun p hp=>J.pin p (by
   have hp:p∈(X.pn++pins)++ []:=hp
   rw[List.append_nil] at hp
   exact List.mem_append_left _ hp),J.hok,U7f S σ⟩
 obtain⟨o,e,d⟩:=q
 have ne:c ∉ [it]:=fun w=>hf.2.2.2.2.1 x c z (by simpa using w)
 obtain⟨sl,q⟩:=J.base.any e (I.freeC x c z) ne
 exact⟨_,q,d⟩
theorem G7d{elt target iter c:Expr}{scope:Scope}{pos:Pos}{N F:List Str}{js:List Nat}{wi:TI}{g:TG}{tc:TT}{te:TE}(S:CompScopeF N F js scope X.N X.env)(hd:A3t X)(hi:PIH X target iter wi)(hex:X.ex=[])
   (hg:∀C s₀ H₀ ex pn,A3t (X.compF scope N F C s₀ H₀ ex pn) ->PG (X.compF scope N F C s₀ H₀ ex pn) target g)
   (hc:∀C s₀ H₀ ex pn,A3t (X.compF scope N F C s₀ H₀ ex pn) ->PT (X.compF scope N F C s₀ H₀ ex pn) c tc)
   (he:∀C s₀ H₀ ex pn,A3t (X.compF scope N F C s₀ H₀ ex pn) ->PE (X.compF scope N F C s₀ H₀ ex pn) elt te)
   {pins:List (Addr×Obj)} {s:Shared} {σ:St} {H:Hp} {Q:VK} {RR:Value ->Env ->Result ->Shared ->Prop} (I:Inv X pins σ H s) (h:(G7b N.length js wi g tc te) σ H Q)
   (hRR:∀(D C:Addr) (s6:Shared) (H5:Hp) (mm:Str ->Option Value),Inv X pins σ H5 s6 ->s6.heap.Ns C mm ->A4u X pins H5 C ->Q (.ref D) H5 ->RR (.ref D) (compEnvC scope (B3b F X.env) C X.env) (.ok .next) s6):
   wpAny (model X.prog X.w) X.A (eval iter X.env) (fun v s1=>wpAny (model X.prog X.w) X.A (pyIter v) (fun itv s2=>wpAny (model X.prog X.w) X.A (newList []) (fun acc s3=>wpAny (model X.prog X.w) X.A (newFunctionEnv scope X.env.globals (B3b F X.env) [] X.env.qual none .none (some X.env)) (fun cenv s4=>
     codeAny (model X.prog X.w) X.A (.compStart (.ListComp elt [⟨target,iter,[c],0⟩] scope pos) 0 itv acc {cenv with scope:=relabel scope X.env}) (RR acc {cenv with scope:=relabel scope X.env}) s4) X.xe s3) X.xe s2) X.xe s1) X.xe s:=by
 refine thn (hi pins s σ H _ I h) fun v s1 h1=>thn h1 fun itv s2 h2=>?_
 obtain⟨it,tn,J,H2,rfl,I2,T,st2,f2,R⟩:=h2
 obtain⟨oi,ei,di⟩:=T.obj _ _ st2
 have hf2:=I2.hok.fresh (Nat.le_refl _)
 refine wpAny_newObj_type ?_
 have I3:Inv X pins σ (upd H2 s2.heap.objs.size (.lst [])) {s2 with heap:=s2.heap.push {cls:= .type "list",dict:=none,data:= .seq ([]:List Value).toArray}}:=Inv.lnew (t':=s2.toks) I2 .nil (Nat.zero_le _)
 refine wpAny_newFunctionEnv S.cell (by intro y hy;simp at hy) (fun h4 hns hsb=>?_) S.kind
 dsimp only at hns hsb ⊢
 generalize hG:s2.heap.push {cls:= .type "list",dict:=none,data:= .seq ([]:List Value).toArray}=G at I3 hns hsb ⊢
 generalize hD:s2.heap.objs.size=D at I3 hf2
 have nD:it≠D:=by rw[<-hD];exact Nat.ne_of_lt (Heap.lt_size ei)
 have eiG:G.get? it=some oi:=by rw[<-hG];exact Heap.get?_push_of_some _ ei
 have kp:∀b o,G.get? b=some o ->h4.get? b=some o:=fun b o e=>hsb.extBut b o (Nat.ne_of_lt (Heap.lt_size e)) (Heap.get?_push_of_some _ e)
 have f3:A4u X pins (upd H2 D (.lst [])) it:=⟨by rw[C9 nD];exact f2.1,f2.2⟩
 have nb:X.base.get? it=none:=by
   cases q:X.base.get? it with
   |none=>rfl
   | some o=>
     have:=(I.ok.bs it o q).1
     rcases f2.2.2.2.1 with z|z
     . rw[hex] at z;simp at z
     . exact absurd (Nat.lt_of_lt_of_le (Heap.lt_size this) z) (Nat.lt_irrefl _)
 have hns':h4.Ns G.objs.size (fun _=>none):=by
   obtain⟨o,es,ep,q1,q2,q3,q4⟩:=hns
   exact⟨o,es,ep,q1,q2,q3,fun x=>by rw[q4];rfl⟩
 have I4:=J9z (tk:=s2.toks+([]:List (Str×Value)).length) S I3 f3 ⟨oi,eiG⟩ nb hns' kp
 have hdc:A3t (X.compF scope N F G.objs.size {s2 with heap:=G} (upd H2 D (.lst [])) [it] (X.pn++pins)):=by
   rcases hd with z|⟨x,o,u,vs,z,e,d,n⟩
   . exact .inl z
   . refine .inr ⟨x,o,u,vs,z,?_,d,n⟩
     have q:=I2.base.frzs x o u e
     show upd H2 D (.lst []) x=_
     rw[C9 fun w=>by rw[w,hf2] at q;cases q]
     exact q
 obtain⟨m,W,w0,turn⟩:=R D hf2
 have gg:=hg _ _ _ _ _ hdc
 have cc:=hc _ _ _ _ _ hdc
 have ee:=he _ _ _ _ _ hdc
 have fpc:∀{H':Hp} {σ':St} {s':Shared} {pl:List (Addr×Obj)},Inv (X.compF scope N F G.objs.size {s2 with heap:=G} (upd H2 D (.lst [])) [it] (X.pn++pins)) pl σ' H' s' ->H' it=none ->(∀p∈pl,p.1≠it) ->A4u (X.compF scope N F G.objs.size {s2 with heap:=G} (upd H2 D (.lst [])) [it] (X.pn++pins)) pl H' it:=by
   intro H' σ' s' pl J' hn hp
   refine⟨hn,Nat.ne_of_lt (Heap.lt_size eiG),?_,.inl (List.mem_singleton.mpr rfl),(fun x c z=>f2.2.2.2.2.1 x c (S.sub x c z)),fun p hpp=>?_⟩
   . intro z
     rcases List.mem_cons.mp (I.stkSub it z) with z|z
     . exact f2.2.1 z
     . exact f2.2.2.1 z
   . rcases List.mem_append.mp hpp with z|z
     . exact f2.2.2.2.2.2 p z
     . exact hp p z
 have loop:codeAny (model X.prog X.w) X.A (.compLoop (.ListComp elt [⟨target,iter,[c],0⟩] scope pos) 0 (.ref it) (.ref D) (compEnvC scope (B3b F X.env) G.objs.size X.env))
     (RR (.ref D) (compEnvC scope (B3b F X.env) G.objs.size X.env))
     {s2 with heap:=h4,toks:=s2.toks+([]:List (Str×Value)).length}:=by
   refine kct_loop (fun k s'=>∃i ys H',k=m+1-i/\Inv (X.compF scope N F G.objs.size {s2 with heap:=G} (upd H2 D (.lst [])) [it] (X.pn++pins)) [] (List.replicate N.length none++C2g js σ) H' s'/\tn i s'.heap/\H' it=none/\W i ys H') ?_ (m+1)
     ⟨0,[],_,rfl,I4,T.keep _ _ _ st2 fun o e=>kp it o (by rw[<-hG];exact Heap.get?_push_of_some _ e),f3.1,w0⟩
   rintro k s5 ⟨i,ys,H5,rfl,I5,st5,n5,w5⟩
   obtain⟨hi5,hD5,w5⟩:=turn i ys H5 w5
   rcases w5 with⟨stop,q⟩|⟨lt5,go,step⟩
   . refine wpAny_mono (T.done (X.compF scope N F G.objs.size {s2 with heap:=G} (upd H2 D (.lst [])) [it] (X.pn++pins)) rfl rfl rfl hdc i [] s5 _ H5 (fun _ _=>False) I5 (fpc I5 n5 (by simp)) st5 stop) (fun r s6 z=>?_) (fun _ _ z=>z.elim)
     obtain⟨rfl,I6⟩:=z
     obtain⟨mm,hn6,_⟩:=I6.loc
     have B6:=I6.base
     have J6:Inv X pins σ H5 s6:=by
       refine I3.call' (ch:=[it]) I6.os ⟨B6.keep,B6.slot,B6.free,B6.there,B6.tups,B6.frzs,B6.tbls⟩ I6.hok I6.bare (fun b hb=>?_)
       have e:b=it:=by simpa using hb
       subst e
       exact⟨f2.2.2.2.1,f2.2.1,f2.2.2.2.2.1,f2.2.2.2.2.2⟩
     have szG:X.s₀.heap.objs.size<=G.objs.size:=I3.sz
     refine hRR D G.objs.size s6 H5 mm J6 hn6 ⟨I6.free,?_,?_,.inr szG,?_,?_⟩ q
     . exact Nat.ne_of_gt I3.lt
     . intro z
       obtain⟨_,o,ho,_⟩:=I3.funs.mem z
       exact Nat.lt_irrefl _ (Heap.lt_size ho)
     . rintro x c z rfl
       obtain⟨v',o,ho,_⟩:=I3.cell x _ z
       exact Nat.lt_irrefl _ (Heap.lt_size ho)
     . rintro p hp z
       have zz:=(I3.pin p hp).1
       rw[z] at zz
       exact Nat.lt_irrefl _ (Heap.lt_size zz)
   . refine wpAny_mono (T.item (X.compF scope N F G.objs.size {s2 with heap:=G} (upd H2 D (.lst [])) [it] (X.pn++pins)) rfl rfl rfl hdc i [] s5 _ H5 (fun _ _=>False) I5 (fpc I5 n5 (by simp)) st5 go) (fun r s6 z=>?_) (fun _ _ z=>z.elim)
     obtain⟨u,rfl,z⟩:=z
     refine wpAny_mono z (fun _ s7 z=>?_) (fun _ _ z=>z.elim)
     obtain⟨x,I7,rx,yl,st7⟩:=z
     obtain⟨o7,e7,d7⟩:=T.obj _ _ st7
     obtain⟨p0,p1,p2,_⟩:=fpc I7 n5 (by simp)
     have I7':Inv (X.compF scope N F G.objs.size {s2 with heap:=G} (upd H2 D (.lst [])) [it] (X.pn++pins)) [(it,o7)] (List.replicate N.length none++C2g js σ) H5 s7:=I7.pins_of fun p hp=>by
       have e:p=(it,o7):=by simpa using hp
       subst e
       exact⟨e7,p0,p1,p2,d7⟩
     have back:∀{i':Nat} {ys':List V} {H':Hp} {σ':St} {s':Shared},i'=i+1 ->Inv (X.compF scope N F G.objs.size {s2 with heap:=G} (upd H2 D (.lst [])) [it] (X.pn++pins)) [(it,o7)] σ' H' s' ->W i' ys' H' ->
         ∃k',k'<m+1-i/\∃i ys H',k'=m+1-i/\Inv (X.compF scope N F G.objs.size {s2 with heap:=G} (upd H2 D (.lst [])) [it] (X.pn++pins)) [] (List.replicate N.length none++C2g js σ) H' s'/\tn i s'.heap/\H' it=none/\W i ys H':=by
       rintro i' ys' H' σ' s' rfl J' w'
       obtain⟨q1,q2,_⟩:=J'.pin (it,o7) (List.mem_append_right _ (List.mem_singleton.mpr rfl))
       refine⟨m+1-(i+1),by omega,i+1,ys',H',rfl,J9p S I3 f3 J',T.keep _ _ _ st7 fun o z=>?_,q2,w'⟩
       rw[e7] at z
       cases z
       exact q1
     refine wpAny_mono (gg [(it,o7)] s7 _ H5 x u _ I7' rx (step x H5 yl)) (fun _ s8 z=>?_) (fun _ _ z=>z.elim)
     obtain⟨σ8,H8,I8,q8⟩:=z
     refine wpAny_mono (cc [(it,o7)] s8 σ8 H8 _ I8 q8) (fun b s9 z=>?_) (fun _ _ z=>z.elim)
     obtain⟨H9,I9,q9⟩:=z
     cases b with
     | false=>
       simp only[Bool.false_eq_true,if_false] at q9 ⊢
       exact back rfl I9 q9
     | true=>
       simp only[if_true] at q9 ⊢
       refine wpAny_mono (ee [(it,o7)] s9 σ8 H9 _ I9 q9) (fun y s10 z=>?_) (fun _ _ z=>z.elim)
       obtain⟨yv,H10,I10,ry,hD10,hz10,w10⟩:=z
       refine wpAny_mono (B1h (X:=X.compF scope N F G.objs.size {s2 with heap:=G} (upd H2 D (.lst [])) [it] (X.pn++pins)) [(it,o7)] s10 σ8 H10 (.ref D) [yv] (.ref D) [y] (fun _ H11=>W (i+1) (ys++ [yv]) H11) I10 rfl (.cons ry .nil) ⟨D,ys,yv,rfl,rfl,hD10,hz10,w10⟩) (fun _ s11 z=>?_) (fun _ _ z=>z.elim)
       obtain⟨_,H11,I11,_,w11⟩:=z
       exact back rfl I11 w11
 exact codeAny_compStart_list loop (T.self _ 0 _ _ _ (T.keep _ _ _ st2 fun o e=>kp it o (by rw[<-hG];exact Heap.get?_push_of_some _ e)) loop)
theorem U9c{elt target iter:Expr}{c:Expr}{tc:TT}{pos:Pos}{wi:TI}{g:TG}{te:TE}(S:CompScopeF N F js scope X.N X.env)(hd:A3t X)(hi:PIH X target iter wi)(hex:X.ex=[])
   (hg:∀C s₀ H₀ ex pn,A3t (X.compF scope N F C s₀ H₀ ex pn) ->PG (X.compF scope N F C s₀ H₀ ex pn) target g)
   (hc:∀C s₀ H₀ ex pn,A3t (X.compF scope N F C s₀ H₀ ex pn) ->PT (X.compF scope N F C s₀ H₀ ex pn) c tc)
   (he:∀C s₀ H₀ ex pn,A3t (X.compF scope N F C s₀ H₀ ex pn) ->PE (X.compF scope N F C s₀ H₀ ex pn) elt te)
   (hs:∀x,foldedSetIterable iter X.env x=pure x:=by intro _;rfl):PE X (.ListComp elt [⟨target,iter,[c],0⟩] scope pos) (G7b N.length js wi g tc te):=by
 intro pins s σ H Q I h
 rw[eval_ListComp]
 refine wpAny_comprehension_free (use:=none) rfl hs S.clos S.kind S.loc (G7d S hd hi hex hg hc he I h (RR:=fun acc ce r s'=>compPost (model X.prog X.w) X.A X.xe none (EP X pins σ Q) acc ce.locals r s') ?_)
 intro D C s6 H5 mm I6 n6 f6 q
 exact⟨mm,n6,fun h' sb=>⟨.ref D,H5,Y8s I6 f6 sb,rfl,q⟩⟩
end
structure CompS(N F:List Str)(sc:Scope):Prop where
 kind:sc.kind= .function
 cell:∀y∈sc.names,y.2≠ .cell
 loc:∀y∈sc.names,y.2= .local ->sc.names.lookup y.1=some .local
 fr:∀y∈sc.names,y.2= .free ->y.1∈F
 nd:(N++F).Nodup
theorem G6y{sc:Scope}{env:Env}{F:List Str}(cell:∀y∈sc.names,y.2≠ .cell)(fr:∀y∈sc.names,y.2= .free ->y.1∈F):∀y∈(relabel sc env).names,y.2= .cell\/y.2= .free ->y.1∈F:=by
 intro y hy h
 obtain⟨⟨n,k⟩,hm,e⟩:=List.mem_map.mp hy
 dsimp only at e
 split at e
 . rename_i hc
   subst e
   simp only[Bool.and_eq_true] at hc
   exact fr (n,k) hm (by simpa using hc.1.1)
 . subst e
   rcases h with h|h
   . exact absurd h (cell (n,k) hm)
   . exact fr (n,k) hm h
theorem CompScopeF.of1{N:List Str}{x:Str}{j:Nat}{sc:Scope}{XN:List Str}{env:Env}(S:CompS N [x] sc)(clos:closureFor sc env=pure (B3b [x] env))(hj:XN[j]?=some x)(hc:∃c,env.cells.lookup x=some c)(hk:env.kindOf x=some .cell)
   (hr:(relabel sc env).names.lookup x=some .cell):CompScopeF N [x] [j] sc XN env:=
 ⟨S.kind,S.cell,S.loc,S.nd,clos,G6y S.cell S.fr,fun k y h=>match k,h with
   |0,h=>by cases h;exact⟨⟨j,rfl,hj⟩,hc,hk,hr⟩
   |k+1,h=>by simp at h,rfl⟩
theorem A4r(z:Str):∀zs:List Str,inV (.str z) (zs.map V.str)=zs.contains z
 | []=>rfl
 | y::zs=>by
   show(eqV (.str y) (.str z)||inV (.str z) (zs.map V.str))=_
   rw[A4r z zs,List.contains_cons]
   show((y==z)||_)=_
   rw[BEq.comm]
theorem A1w:∀zs:List Str,(zs.map V.str).all B2j=true
 | []=>rfl
 |_::zs=>A1w zs
theorem U8w{K:Frag}{H:Hp}{σ σf:L2.St}{a:Addr}{zs:List Str}{f:Str ->Bool}{tc:TT}{te:TE}{Q:VK}(hl:∀H,SqT K H a (zs.map V.str))(hz:zs.length<=100)
   (ht:∀(z:Str) (H':Hp) (Qb:Bool ->Hp ->Prop),Same H H' ->Qb (f z) H' ->tc (some (.str z)::σf) H' Qb) (he:∀(z:Str) (H':Hp) (Qv:VK),Qv (.str z) H' ->te (some (.str z)::σf) H' Qv)
   (k:∀D H',Same H H' ->H D=none ->H' D=some (.lst ((zs.filter f).map V.str)) ->Q (.ref D) H') {js:List Nat} (hj:C2g js σ=σf):G7b 1 js (Z7a K (tC (.ref a))) (U7u 0) tc te σ H Q:=by
 refine⟨a,rfl,⟨_,hl H⟩,fun D hD=>⟨zs.length,fun i ys H2=>i<=zs.length/\ys=((zs.take i).filter f).map V.str/\H2=upd H D (.lst ys),⟨Nat.zero_le _,rfl,rfl⟩,?_⟩⟩
 rintro i ys H2 ⟨hi,rfl,rfl⟩
 refine⟨hi,A8,?_⟩
 have sm:Same H (upd H D (.lst (((zs.take i).filter f).map V.str))):=Same.upd hD
 have lz:(((zs.take i).filter f).map V.str).length<=100:=by
   rw[List.length_map]
   exact Nat.le_trans (List.length_filter_le _ _) (by rw[List.length_take];omega)
 by_cases hlt:i<zs.length
 . refine .inr ⟨hlt,⟨_,V.str zs[i],hl _,by simp[hlt]⟩,fun x H3 y=>?_⟩
   obtain⟨rfl,y⟩:=y
   have ex:x=V.str zs[i]:=by
     have:=y _ (hl _)
     simp[hlt] at this
     exact this.symm
   subst ex
   rw[hj]
   show tc (some (.str zs[i])::σf) _ _
   refine ht _ _ _ sm ?_
   have et:(zs.take (i+1)).filter f=(zs.take i).filter f++(if f zs[i] then [zs[i]] else []):=by
     rw[List.take_succ_eq_append_getElem hlt,List.filter_append]
     congr 1
     cases hb:f zs[i]<;>simp[hb]
   cases hb:f zs[i] with
   | false=>
     refine J4 ⟨hlt,?_,rfl⟩
     rw[et,hb];simp
   | true=>
     refine V2 (he _ _ _ ⟨A8,Nat.lt_of_le_of_lt lz (V9 (by decide)),hlt,?_,?_⟩)
     . rw[et,hb];simp
     . rw[Y5p]
 . have e:i=zs.length:=by omega
   subst e
   refine .inl ⟨⟨_,hl _,by simp⟩,k D _ sm hD ?_⟩
   rw[List.take_length]
   exact A8
end L2
namespace L2
open PySem
section
variable{prog:Program}{w:World}{A:Around}{E:Value ->Shared ->Prop}{h:Heap}{g:Array GenState}{d:Drawn}{t:Nat}{os:OsState}
variable{nm q:Str}{C N:Addr}{bs bm bmB:List Value}{hdct:Bool}{sn:List Str}{sub:List Value}{ab:Bool}{col:Option Bool}{dd:Option Addr}{k0 k1 k2 k3 k5:Option Value}{B newId initId:String}
theorem B2a(F:ExcBaseFacts B newId initId bmB)(T:OwnTail h bmB bm){mN:Str ->Option Value}{rest:List Value}{fI:Addr}{oI:Obj}{Q:Fin ->Shared ->Prop}
   (hC:h.get? C=some (excClassObj nm q C N bs bm hdct sn sub ab col dd k0 k1 k2 k3 k5 newId)) (hn:h.Ns N mN) (hi:mN "__init__"=some (.ref fI))
   (hfI:h.get? fI=some oI) (hfc:oI.cls= .type "function")
   (hq:∀h' e,Heap.MadeExcOf h h' e (.ref C) rest ->
     wpAny (model prog w) A (call (.ref fI) (.ref e::rest)) (fun r s'=>r= .none/\Q (.done (.ret (.ref e))) s') E ⟨h',g,d,t,os⟩) (hrest:rest.length<=sizeLine):
   wpAny (model prog w) A (Builtin.«type.__call__» ⟨.ref C :: rest, []⟩) Q E ⟨h, g, d, t, os⟩ := by
 repeat (first|with_reducible refine wpAny_loadPart_at hC ?_|with_reducible refine wpAny_madeBy_exc hC ?_|wp_step)
 refine codeAny_call_builtin_code (Code.quiet_builtin _ F.quiet) (wpAny_check_new_subT F T hC ?_)
 refine codeAny_exc_new_subT F T hC ?_ hrest
 show wpAny _ _ _ _ _ _
 have hC₁:=Heap.get?_push_of_some {cls:= .ref C,data:= .fields #[.ref h.objs.size,.none,.none,.none,.bool false,.none]}
   (Heap.get?_push_of_some {cls:= .type "tuple",data:= .seq rest.toArray} hC)
 have hfI₁:=Heap.get?_push_of_some {cls:= .ref C,data:= .fields #[.ref h.objs.size,.none,.none,.none,.bool false,.none]}
   (Heap.get?_push_of_some {cls:= .type "tuple",data:= .seq rest.toArray} hfI)
 have hn₁:((h.push {cls:= .type "tuple",data:= .seq rest.toArray}).push {cls:= .ref C,data:= .fields #[.ref h.objs.size,.none,.none,.none,.bool false,.none]}).Ns N mN:=
   let⟨o,es,ep,e,r⟩:=hn;⟨o,es,ep,Heap.get?_push_of_some _ (Heap.get?_push_of_some _ e),r⟩
 have hget:((h.push {cls:= .type "tuple",data:= .seq rest.toArray}).push
     {cls:= .ref C,data:= .fields #[.ref h.objs.size,.none,.none,.none,.bool false,.none]}).get? (h.objs.size+1)=some
     {cls:= .ref C,data:= .fields #[.ref h.objs.size,.none,.none,.none,.bool false,.none]}:=by heap_get
 have hcC:(Value.ref C::bm).contains (.ref C)=true:=by simp
 have T₁:=T.keeps (h':=(h.push {cls:= .type "tuple",data:= .seq rest.toArray}).push {cls:= .ref C,data:= .fields #[.ref h.objs.size,.none,.none,.none,.bool false,.none]})
   fun b o e=>Heap.get?_push_of_some _ (Heap.get?_push_of_some _ e)
 unfold isInstance
 repeat (first|with_reducible refine wpAny_loadPart_at hget ?_|(with_reducible refine wpAny_isSubtype_exc hC₁ ?_;rw[hcC])|wp_step)
 show wpAny _ _ (typeLookup (.ref C) _) _ _ _
 refine wpAny_typeLookup_tail hC₁ hn₁ T₁ F.mroIs F.init.lookup ?_
 rw[hi]
 refine wpAny_holding (wpAny_bind ?_)
 unfold bindSpecial
 refine wpAny_bind (wpAny_typeOf (T:="function") ⟨_,hfI₁,hfc⟩ ?_)
 rw[if_pos (by decide)]
 refine wpAny_pure (wpAny_bind (wpAny_mono (hq _ (h.objs.size+1) ⟨fun b o hb=>Heap.get?_push_of_some _ (Heap.get?_push_of_some _ hb),Heap.get?_none_of_le (Nat.le_succ _),h.objs.size,hget,Heap.get?_none_of_le (Nat.le_refl _),?_⟩) (fun r s' hr=>?_) fun _ _ x=>x))
 . exact Heap.get?_push_of_some _ (Heap.get?_push_at rfl rfl)
 . obtain⟨rfl,hQ⟩:=hr
   wp_walk
   exact hQ
theorem C2b(F:ExcBaseFacts B newId initId bmB)(T:OwnTail h bmB bm){mN:Str ->Option Value}{rest:List Value}{fI:Addr}{oI:Obj}{Q:Value ->Shared ->Prop}
   (hC:h.get? C=some (excClassObj nm q C N bs bm hdct sn sub ab col dd k0 k1 k2 k3 k5 newId)) (hn:h.Ns N mN) (hi:mN "__init__"=some (.ref fI))
   (hfI:h.get? fI=some oI) (hfc:oI.cls= .type "function")
   (hq:∀h' e,Heap.MadeExcOf h h' e (.ref C) rest ->
     wpAny (model prog w) (A.under (.builtin "type.__call__" ⟨.ref C::rest,[]⟩)) (call (.ref fI) (.ref e::rest)) (fun r s'=>r= .none/\Q (.ref e) s') E ⟨h',g,d,t,os⟩) (hrest:rest.length<=sizeLine):
   wpAny (model prog w) A (call (.ref C) rest) Q E ⟨h,g,d,t,os⟩:=by
 have f1:=tc_lookup
 have f2:=tc_bind (.ref C)
 have hT:(⟨h,g,d,t,os⟩:Shared).TypeIs (.ref C) "type":=⟨_,hC,rfl⟩
 refine wpAny_call (codeAny_of_tree ?_)
 show wpAny _ _ (callAny (.ref C) _) _ _ _
 repeat (any_goals (first|assumption|with_reducible refine wpAny_loadPart_at hC ?_|wp_step))
 refine⟨rfl,?_⟩
 refine codeAny_call_builtin_at (Code.quiet_builtin _ (by decide+kernel)) entry_typeCall (wpAny_check_type_call_sub hC (B2a (hrest:=hrest) F T hC hn hi hfI hfc fun h' e hm=>?_))
 exact hq h' e hm
end
section
variable{M:Model}{prog:Program}{w:World}{A:Around}{E:Value ->Shared ->Prop}{s:Shared}{env:Env}
variable{nm q:Str}{C N:Addr}{bs bm bmB:List Value}{hdct:Bool}{sn:List Str}{sub:List Value}{ab:Bool}{col:Option Bool}{dd:Option Addr}{k0 k1 k2 k3 k5:Option Value}{B newId initId:String}
theorem A7v{x:Sem Value}{Q:Flow ->Shared ->Prop}(hbase:bm.contains (.type "BaseException")=true)(hh:A.handled=none)
   (h:wpAny M A x (fun v s₁=>∃e t de,v= .ref e/\s₁.heap.get? C=some (excClassObj nm q C N bs bm hdct sn sub ab col dd k0 k1 k2 k3 k5 newId)/\
     s₁.heap.get? e=some {cls:= .ref C,dict:=de,data:= .fields #[.ref t,.none,.none,.none,.bool false,.none]}/\E (.ref e) s₁) E s):
   wpAny M A (raiseStmt env (some x) none) Q E s:=by
 have hcB:(Value.ref C::bm).contains (.type "BaseException")=true:=by rw[List.contains_cons,hbase,Bool.or_true]
 unfold raiseStmt
 refine wpAny_bind (wpAny_mono h (fun v s₁ h₁=>?_) fun _ _ x=>x)
 obtain⟨e,t,de,rfl,hC,he,hE⟩:=h₁
 obtain⟨hp,g,d,tk,os⟩:=s₁
 repeat (first|with_reducible refine wpAny_loadPart_at he ?_|with_reducible refine wpAny_loadPart_at hC ?_|(with_reducible refine wpAny_isSubtype_exc hC ?_;rw[hcB])|wp_step)
 exact wpAny_raiseNew_none hh hE
theorem B5w(F:ExcBaseFacts B newId initId bmB){mN:Str ->Option Value}{x:Str}{np cpos pos:Pos}{args:List Expr}{Q:Flow ->Shared ->Prop}{fI:Addr}{oI:Obj}
   (hbase:bm.contains (.type "BaseException")=true) (hh:A.handled=none) (hplain:(backTo cpos (starEach args env)).any (·.1)=false) (hi:mN "__init__"=some (.ref fI)) (hfc:oI.cls= .type "function")
   (h:wpAny (model prog w) A (eval (.Name x np) env) (fun f s₁=>f= .ref C/\wpAny (model prog w) A (evalArgs (.ref C) true (backTo cpos (starEach args env)) [])
     (fun a s₂=>a.kw=[]/\a.pos.length<=sizeLine/\s₂.heap.get? C=some (excClassObj nm q C N bs bm hdct sn sub ab col dd k0 k1 k2 k3 k5 newId)/\s₂.heap.Ns N mN/\OwnTail s₂.heap bmB bm/\s₂.heap.get? fI=some oI/\
       ∀ h' e,Heap.MadeExcOf s₂.heap h' e (.ref C) a.pos ->wpAny (model prog w) (A.under (.builtin "type.__call__" ⟨.ref C::a.pos,[]⟩)) (call (.ref fI) (.ref e::a.pos))
         (fun r s₃=>r= .none/\s₃.heap.get? C=some (excClassObj nm q C N bs bm hdct sn sub ab col dd k0 k1 k2 k3 k5 newId)/\(∃t de,s₃.heap.get? e=some {cls:= .ref C,dict:=de,data:= .fields #[.ref t,.none,.none,.none,.bool false,.none]})/\E (.ref e) s₃) E {s₂ with heap:=h'}) E s₁) E s):
   wpAny (model prog w) A (exec (.Raise (some (.Call (.Name x np) args [] cpos)) none pos) env) Q E s:=by
 rw[arm_exec_Raise]
 first
   |refine wpAny_bind (wpAny_standAt (A7v (C:=C) (nm:=nm) (q:=q) (N:=N) (bs:=bs) (bm:=bm) (hdct:=hdct) (sn:=sn) (sub:=sub) (ab:=ab) (col:=col) (dd:=dd) (k0:=k0) (k1:=k1) (k2:=k2) (k3:=k3) (k5:=k5) (newId:=newId) hbase hh (wpAny_bind (wpAny_mono (wpAny_Call_ofName (wpAny_mono h (fun f s₁ h₁=>?_) fun _ _ x=>x)) (fun v s₃ h₃=>wpAny_bind (wpAny_standAt (wpAny_pure h₃))) fun _ _ x=>x))))
   |(simp only[evalOpt,Option.map];refine wpAny_bind (wpAny_standAt (A7v (C:=C) (nm:=nm) (q:=q) (N:=N) (bs:=bs) (bm:=bm) (hdct:=hdct) (sn:=sn) (sub:=sub) (ab:=ab) (col:=col) (dd:=dd) (k0:=k0) (k1:=k1) (k2:=k2) (k3:=k3) (k5:=k5) (newId:=newId) hbase hh (wpAny_bind (wpAny_mono (wpAny_Call_ofName (wpAny_mono h (fun f s₁ h₁=>?_) fun _ _ x=>x)) (fun v s₃ h₃=>wpAny_bind (wpAny_standAt (wpAny_pure h₃))) fun _ _ x=>x)))))
 obtain⟨rfl,h₁⟩:=h₁
 unfold callWith
 refine wpAny_bind (wpAny_holding (wpAny_mono h₁ (fun a s₂ h₂=>wpAny_bind (wpAny_standAt ?_)) fun _ _ x=>x))
 obtain⟨apos,akw⟩:=a
 obtain⟨hkw,hlen,hC,hn,T,hf,h₂⟩:=h₂
 obtain rfl:akw=[]:=hkw
 obtain⟨hp,g,d,tk,os⟩:=s₂
 simp only[hplain]
 refine wpAny_bind (wpAny_keeperOf_exc hC ?_)
 refine wpAny_bind (C2b F T hC hn hi hf hfc (fun h' e hm=>wpAny_mono (h₂ h' e hm) (fun r s₃ z=>⟨z.1,wpAny_bind (wpAny_holding (wpAny_point (wpAny_pure ?_)))⟩) fun _ _ x=>x) hlen)
 obtain⟨_,hC3,⟨t,de,he⟩,hE⟩:=z
 exact⟨e,t,de,rfl,hC3,he,hE⟩
end
end L2
namespace L2
open PySem PySem.Spec PyProof.Rows PySem.W
noncomputable abbrev J7j:List Value:=[.type "ValueError",.type "Exception",.type "BaseException",.type "object"]
structure ExcI(K:Frag)(C fI:Addr):Prop where
 cls:∃nm q N bs bm sn sub ab col dd k0 k1 k2 k3 k5,K.lookup C=some (excClassObj nm q C N bs bm true sn sub ab col dd k0 k1 k2 k3 k5 "ValueError.__new__")/\nsOkIn K N=true/\nsIn K N "__init__"=some (some (.ref fI))/\tailIn K J7j bm=true
 fn:∃o,K.lookup fI=some o/\o.cls= .type "function"
 sa:findIn K (.ref C) "__setattr__"=some (some (.builtin "object.__setattr__"))
 ob:mroIn K C (.type "object")=some true
theorem G8u{K:Frag}{h:Heap}{N:Addr}{mg:Str ->Option Value}{n:Str}{v:Value}(X:K.In h)(G:h.Ns N mg)(e:nsIn K N n=some (some v)):mg n=some v:=by
 obtain⟨o,es,ep,ho,hd,_,hf⟩:=G
 unfold nsIn at e
 split at e
 . rename_i c d es' n' sl q
   have:=X _ _ q
   rw[ho] at this
   cases this
   cases hd
   split at e
   . rename_i en he
     cases e
     rw[<-hf]
     unfold nsFind findBy
     rw[<-Array.find?_toList,he]
     rfl
   . split at e<;>cases e
 . cases e
theorem B9h{h:Heap}(self:Value):∀{l:List Value},OwnTail h J7j l ->refuseLoop self "__setattr__" l=pure ()
 |_,.base=>PySem.F.store_ValueError.passes self
 |_,.own _ _ _ t=>by rw[refuseLoop_ref];exact B9h self t
section
variable{prog:Program}{w:World}{A:Around}{s:Shared}{K:Frag}{C e fI:Addr}{t:Addr}{R:Result ->Shared ->Prop}{name:Str}{tk:Tok}{v:Value}
theorem Y4q(X:K.In s.heap)(F:ExcI K C fI)(he:s.heap.get? e=some (A1b (.ref C) t none .none))(ht:findIn K (.ref C) name=some none)
   (h:∀h' tk' d,(∀b ob,b≠e ->s.heap.get? b=some ob ->h'.get? b=some ob) ->h'.get? e=some (A1b (.ref C) t (some d) .none) ->h'.Ns1 d (fun y=>if y=name then some v else none) ->s.heap.get? d=none ->d≠e ->
     R (.ok (.ret .none)) {s with heap:=h',toks:=tk'}):
   codeAny (model prog w) A (.call (.builtin "object.__setattr__") ⟨[.ref e,.str name tk,v],[]⟩) R s:=by
 have SF:=PySem.F.store_object
 obtain⟨nm,q,N,bs,bm,sn,sub,ab,col,dd,k0,k1,k2,k3,k5,lC,nO,nI,tl⟩:=F.cls
 have hC:=X _ _ lC
 have I:PySem.W.InstAt s.heap e (A1b (.ref C) t none .none) C none:=⟨he,rfl,rfl,trivial⟩
 have hc:clsIn K C=some {name:=nm,bases:=bs,mro:= .ref C::bm,ns:=N,qualname:=q,hasDict:=true,slotNames:=sn,subclasses:=sub,abstract:=ab,collection:=col,hasDel:=false}:=by
   unfold clsIn
   rw[lC]
 have sub':Looks (model prog w) s.heap (isInstance (.ref e) (.type "object")) true:=I.type.andThen (looks_mroIn X F.ob)
 refine codeAny_call_builtin SF.slot.plain SF.entry (@check_slot (model prog w) _ _ s "object.__setattr__" "object" "__setattr__" (.ref e) [.str name tk,v] [] _ SF.kind SF.split sub' (SF.args (.ref e) (.str name tk) v) ?_)
 have hm:Looks (model prog w) s.heap (mroOf (.ref C)) (.ref C::bm):=(looks_clsIn X hc).andThen .now
 have L3:Looks (model prog w) s.heap (Builtin.ObjectAttr.storeTaker? none) none:= .now
 rw[osa_eq,refuse_eq]
 refine wpAny_bind (wpAny_bind (I.type.here (wpAny_bind (hm.here ?_))))
 rw[refuseLoop_ref,B9h _ (tail_of_in X tl)]
 refine wpAny_pure (wpAny_bind (I.type.here (wpAny_bind ((looks_findIn X ht).here (wpAny_bind (L3.here ?_))))))
 dsimp only
 refine wpAny_bind (wpAny_pure (wpAny_bind (wpAny_bind (wpAny_loadPart he (wpAny_bind (PySem.W.Looks.here (PySem.W.looks_clsIn X hc) ?_))))))
 have hx₁:(s.heap.push {cls:= .type "dict",data:= .dict #[]}).get? e=some (A1b (.ref C) t none .none):=Heap.get?_push_of_some _ he
 have hxs:e≠s.heap.objs.size:=Nat.ne_of_lt (Heap.lt_size he)
 show wpAny (model prog w) A.in1 (do
     let d<-alloc {cls:=Value.type "dict",data:=Data.dict #[]}
     update e fun o=>{cls:=o.cls,dict:=some d,data:=o.data,slots:=o.slots}
     pure (some d)) _ _ _
 refine wpAny_bind (wpAny_alloc' ?_)
 refine wpAny_bind (wpAny_update' hx₁ ?_)
 refine wpAny_pure ?_
 have hgd:((s.heap.push {cls:= .type "dict",data:= .dict #[]}).update e fun o=>{cls:=o.cls,dict:=some s.heap.objs.size,data:=o.data,slots:=o.slots}).get? s.heap.objs.size
     =some {cls:= .type "dict",data:= .dict #[]}:=
   (Heap.get?_update_ne _ _ _ _ hxs.symm).trans (Heap.get?_push_at rfl rfl)
 have hnd:((s.heap.push {cls:= .type "dict",data:= .dict #[]}).update e fun o=>{cls:=o.cls,dict:=some s.heap.objs.size,data:=o.data,slots:=o.slots}).Ns s.heap.objs.size (fun _=>none):=
   ⟨_, #[],_,hgd,rfl,fun e he=>absurd he (by simp),fun _=>rfl⟩
 show wpAny _ _ (Builtin.ObjectAttr.storeInDict s.heap.objs.size (.str name tk) name v) _ _ _
 unfold Builtin.ObjectAttr.storeInDict Builtin.ObjectAttr.newKeyGuard
 refine wpAny_bind (wpAny_pure (wpAny_bind (wpAny_nsSet1 (Heap.Ns1.of_empty hnd) fun h' hn' hs=>?_)))
 obtain⟨oD,esD,epD,hoD,hdD,hcD⟩:=hn'.count (Within.cons name v Within.nil)
 refine wpAny_bind (wpAny_lookBehind hoD (by rw[hdD];exact pastItsLine_dict (Nat.le_trans hcD (by rw[List.length_cons,List.length_nil,sizeLine_eq];omega))) ?_)
 have hx':h'.get? e=some (A1b (.ref C) t (some s.heap.objs.size) .none):=(hs.2 e hxs).trans (Heap.get?_update_self _ hx₁ rfl)
 refine wpAny_pure (h h' _ s.heap.objs.size (fun b ob hbx hb=>?_) hx' hn' (Heap.get?_none_of_le (Nat.le_refl _)) hxs.symm)
 exact(hs.2 b (Nat.ne_of_lt (Heap.lt_size hb))).trans ((Heap.get?_update_ne _ _ _ _ hbx).trans (Heap.get?_push_of_some _ hb))
end
noncomputable def A3c (e C t:Addr) (d:Option Addr):Heap ->Prop:=fun h=>h.get? e=some (A1b (.ref C) t d .none)
theorem U6f{P:Program}{w:World}{H:Hp}{h:Heap}{e C t:Addr}{d:Option Addr}(q:h.get? e=some (A1b (.ref C) t d .none)):ObjOk P w H h e (.ext (A3c e C t d)):=
 ⟨q,⟨_,q⟩,fun _ _ z k=>k _ z⟩
section
variable{X:Cx}{pins:List (Addr×Obj)}{σ:St}{H:Hp}{s:Shared}
theorem Inv.trackO{a:Addr}{ho:HO}(I:Inv X pins σ H s)(n:Nw X pins H a)(ok:ObjOk X.prog X.w (upd H a ho) s.heap a ho):Inv X pins σ (upd H a ho) s:=by
 have ne:∀b u,H b=some u ->b≠a:=fun b u z q=>by rw[q,n.un] at z;cases z
 have up:∀b,b≠a ->upd H a ho b=H b:=fun b hb=>C9 hb
 refine⟨I.ok,I.os,I.bare,⟨I.base.keep,I.base.slot,fun b u z m hx=>?_,I.base.there,fun b xs z=>?_,fun b u v z=>?_,fun b ps z=>?_⟩,I.loc,I.cell,?_,fun x c z=>?_,fun p hp=>?_,fun b u z=>?_,I.len⟩
 . rw[up b fun q=>by rw[q,n.old] at z;cases z]
   exact I.base.free b u z m hx
 . have:=I.base.tups b xs z
   rw[up b (ne b _ this)];exact this
 . have:=I.base.frzs b u v z
   rw[up b (ne b _ this)];exact this
 . obtain⟨more,this⟩:=I.base.tbls b ps z
   exact⟨more,by rw[up b (ne b _ this)];exact this⟩
 . rw[up _ (Ne.symm n.loc)];exact I.free
 . rw[up _ (n.cell x c z)];exact I.freeC x c z
 . obtain⟨q1,q2,q3⟩:=I.pin p hp
   exact⟨q1,by rw[up _ (n.pin p hp)];exact q2,q3⟩
 . by_cases hb:b=a
   . subst hb
     rw[A8] at z
     cases z
     exact ok
   . rw[up b hb] at z
     exact(I.hok b u z).stay (fun _ _ _ q=>q) (fun c q=>by rw[up c (ne c _ q)];exact q) (fun c xs q=>by rw[up c (ne c _ q)];exact q)
noncomputable def rem (H:Hp) (a:Addr):Hp:=fun b=>if b=a then none else H b
theorem C0x{a:Addr}:rem H a a=none:=by unfold rem;rw[if_pos rfl]
theorem A4y{a b:Addr}(h:b≠a):rem H a b=H b:=by unfold rem;rw[if_neg h]
theorem Inv.forget{a:Addr}{φ:Heap ->Prop}(I:Inv X pins σ H s)(e:H a=some (.ext φ)):Inv X pins σ (rem H a) s:=by
 have ne:∀b u,H b=some u ->(∀φ,u≠ .ext φ) ->b≠a:=fun b u z q w=>by rw[w,e] at z;cases z;exact q _ rfl
 have non:∀b,H b=none ->rem H a b=none:=fun b z=>by
   by_cases q:b=a
   . rw[q];exact C0x
   . rw[A4y q];exact z
 refine⟨I.ok,I.os,I.bare,⟨I.base.keep,I.base.slot,fun b u z m hx=>non b (I.base.free b u z m hx),I.base.there,fun b xs z=>?_,fun b u v z=>?_,fun b ps z=>?_⟩,I.loc,I.cell,non _ I.free,fun x c z=>non _ (I.freeC x c z),fun p hp=>?_,fun b u z=>?_,I.len⟩
 . have:=I.base.tups b xs z
   rw[A4y (ne b _ this (fun _ q=>nomatch q))];exact this
 . have:=I.base.frzs b u v z
   rw[A4y (ne b _ this (fun _ q=>nomatch q))];exact this
 . obtain⟨more,this⟩:=I.base.tbls b ps z
   exact⟨more,by rw[A4y (ne b _ this (fun _ q=>nomatch q))];exact this⟩
 . obtain⟨q1,q2,q3⟩:=I.pin p hp
   exact⟨q1,non _ q2,q3⟩
 . have hb:b≠a:=fun q=>by rw[q,C0x] at z;cases z
   rw[A4y hb] at z
   exact(I.hok b u z).stay (fun _ _ _ q=>q) (fun c q=>by rw[A4y (ne c _ q (fun _ w=>nomatch w))];exact q) (fun c xs q=>by rw[A4y (ne c _ q (fun _ w=>nomatch w))];exact q)
end
noncomputable def Z7j (C:Addr) (ta tv:TE) (f:Str):TS:=fun D σ H=>tv σ H fun y H1=>ta σ H1 fun x H2=>∃e t,x= .ref e/\H2 e=some (.ext (A3c e C t none))/\
 ∀d,H2 d=none ->d≠e ->D.nx σ (upd (upd H2 e (.ext (A3c e C t (some d)))) d (.xd [(f,y)]))
section
variable{X:Cx}{o value:Expr}{f:Str}{pos pos':Pos}{ta tv:TE}{C fI:Addr}
theorem Y4r(F:ExcI X.K C fI)(hf:findIn X.K (.ref C) f=some none)(ha:PE X o ta)(hv:PE X value tv)(hs:swapsWith value (some (.Attribute o f pos')) pos.line X.env=pure false)(hex:X.ex=[]:=by rfl):
   PS X (.Assign [.Attribute o f pos'] value pos) (Z7j C ta tv f):=by
 intro pins s σ H D I h
 refine plainObj_wpAny_Assign_Attribute (thn (hv pins s σ H _ I h) fun u s1 ⟨y,H1,I1,ry,q⟩=>thn (ha pins s1 σ H1 _ I1 q) fun ov s2 hh_=>?_) hs
 obtain⟨x,H2,I2,rx,e,t,ex,ea,q2⟩:=hh_
 subst ex
 obtain rfl:ov=Value.ref e:=rx
 have he:s2.heap.get? e=some (A1b (.ref C) t none .none):=(I2.hok e _ ea).1
 refine set_plain I2.kIn (⟨he,rfl,rfl,trivial⟩:PySem.W.InstAt s2.heap e (A1b (.ref C) t none .none) C none) F.sa (Y4q (s:={s2 with toks:=s2.toks+1}) I2.kIn F he hf fun h' tk' d k1 k2 k3 k4 k5=>?_)
 have nd:H2 d=none:=I2.hok.new k4
 have I3:Inv X pins σ (upd H2 e (.ext (A3c e C t (some d)))) {s2 with heap:=h',toks:=tk'}:=
   I2.write (x:=e) (e:=e) (by rw[ea];exact trivial) (.inl rfl) (fun b u hb z=>k1 b u hb z) ⟨_,k2⟩ (U6f k2)
 have nw:Nw X pins (upd H2 e (.ext (A3c e C t (some d)))) d:=I2.nw hex k4 (by rw[C9 k5];exact nd)
 refine⟨σ,_,I3.trackO (ho:= .xd [(f,y)]) nw ⟨_,k3,fun g=>?_⟩,q2 d nd k5⟩
 show RelO (List.lookup g [(f,y)]) (if g=f then some u else none)
 by_cases z:g=f
 . rw[if_pos z,z]
   have:List.lookup f [(f,y)]=some y:=by simp[List.lookup]
   rw[this];exact ry
 . rw[if_neg z]
   have:List.lookup g [(f,y)]=none:=by
     have hb:(g==f)=false:=beq_eq_false_iff_ne.mpr z
     simp[List.lookup,hb]
   rw[this];exact trivial
end
noncomputable def D3c (C:Addr) (f:Str):Sp:=fun vs H Q _=>∃e t v,vs=[.ref e,v]/\H e=some (.ext (A3c e C t none))/\∀d,H d=none ->d≠e ->Q .non (upd (upd H e (.ext (A3c e C t (some d)))) d (.xd [(f,v)]))
noncomputable def Y5q (C:Addr) (f:Str) (EH:EK) (t:TA):TS:=fun _ σ H=>t σ H fun vs H1=>∃v,vs=[v]/\∀d H2,Same H1 H2 ->H1 d=none ->H2 d=some (.xd [(f,v)]) ->EH (.ref C) (some d) σ H2
section
variable{X:Cx}{x f:Str}{p cpos pos:Pos}{e:Expr}{t:TA}{C fI:Addr}{fdI:FuncData}{ps:List Str}{EH:EK}{j k:Nat}
theorem J9a(hm:X.mg x=some (.ref C))(F:ExcI X.K C fI)(G:FnOk X.prog X.w X.K X.mg X.base CX0 j fI fdI ps (D3c C f))(bI:Binds X.K fdI ps [])(hr:Room k X.A)(hx:G5 X EH)(ha:PA X [e] t)(hj:j+1<=k:=by decide)(hg:Gl X x:=by rfl)(hex:X.ex=[]:=by rfl)
   (hdb:(x==("__debug__":Str))=false:=by decide) (he:starEach [e] X.env=(false,eval e X.env)::starEach [] X.env:=by rfl) (hpl:(backTo cpos (starEach [] X.env)).any (·.1)=false:=by rfl):
   PS X (.Raise (some (.Call (.Name x p) [e] [] cpos)) none pos) (Y5q C f EH t):=by
 intro pins s σ H D I h
 obtain⟨nm,q,N,bs,bm,sn,sub,ab,col,dd,k0,k1,k2,k3,k5,lC,nO,nI,tl⟩:=F.cls
 obtain⟨oI,lI,cI⟩:=F.fn
 have T0:OwnTail X.base J7j bm:=tail_of_in I.ok.mod.kin tl
 have hN0:X.base.Ns N (X.base.nsMap N):= .of_isNs (isNs_of_in I.ok.mod.kin nO)
 have hi0:X.base.nsMap N "__init__"=some (.ref fI):=G8u I.ok.mod.kin hN0 nI
 refine B5w (C:=C) (nm:=nm) (q:=q) (N:=N) (bs:=bs) (bm:=bm) (hdct:=true) (sn:=sn) (sub:=sub) (ab:=ab) (col:=col) (dd:=dd) (k0:=k0) (k1:=k1) (k2:=k2) (k3:=k3) (k5:=k5) (oI:=oI) PySem.F.excBase_ValueError (mN:=X.base.nsMap N) (T0.hasType PySem.F.excBase_ValueError.hasBase) hr.hd
   (by rw[he];show(false||(backTo cpos (starEach [] X.env)).any (·.1))=false;rw[hpl];rfl) hi0 cI (A3b I hg hm ⟨rfl,?_⟩ hdb)
 have ha':=ha cpos pins s σ H _ I h
 rw[he] at ha' ⊢
 refine Calls.evalArgs_plain (wpAny_mono ha' (fun us s2 hh_=>?_) fun _ _ y=>y)
 obtain⟨vs,H1,I1,r,v,ev,z⟩:=hh_
 subst ev
 obtain⟨u,rfl,ru⟩:=r.one
 refine⟨rfl,C7 (by show 1<=1000;decide),I1.kIn _ _ lC,hN0.keeps I1.bk,T0.keeps I1.bk,I1.kIn _ _ lI,fun h' a m=>?_⟩
 obtain⟨t',e1,tn,e2⟩:=m.there
 have I2:Inv X pins σ H1 {s2 with heap:=h'}:=I1.kept (t':=s2.toks) m.keeps
 have na:H1 a=none:=I1.hok.new m.new
 have I3:=I2.trackO (ho:= .ext (A3c a C t' none)) (I1.nw hex m.new na) (U6f e1)
 have sp0:D3c C f [.ref a,v] (upd H1 a (.ext (A3c a C t' none))) (fun v0 H'=>v0= .non/\∃d,H1 d=none/\d≠a/\H'=upd (upd (upd H1 a (.ext (A3c a C t' none))) a (.ext (A3c a C t' (some d)))) d (.xd [(f,v)])) E0:=
   ⟨a,t',v,rfl,A8,fun d nd nda=>⟨rfl,d,by rw[C9 nda] at nd;exact nd,nda,rfl⟩⟩
 have rr:Vals [.ref a,v] [.ref a,u]:= .cons rfl (.cons ru .nil)
 have hl:([Value.ref a,u]++ []).length=ps.length:=by
   have:=G.len _ _ _ _ sp0
   rw[<-this];rfl
 refine wpAny_call (codeAny_mono (G.run _ X.stack _ _ ⟨[.ref a,u],[]⟩ ([.ref a,u]++ []) [.ref a,v] _ E0 ((hr.mono hj).make C [u] []) (I3.env0.make C [u] []) (bI _ [.ref a,u] I3.kIn hl) rr sp0) fun r s' hq=>?_)
 cases r with
 |error e=>exact hq.elim
 | ok fl=>
   cases fl with
   | ret u0=>
     obtain⟨v0,H',I4,rv,ev,d,nd,nda,eH⟩:=I3.after hq
     subst ev eH
     have ea:(upd (upd (upd H1 a (.ext (A3c a C t' none))) a (.ext (A3c a C t' (some d)))) d (.xd [(f,v)])) a=some (.ext (A3c a C t' (some d))):=by
       rw[C9 (Ne.symm nda),A8]
     have g1:s'.heap.get? a=some (A1b (.ref C) t' (some d) .none):=(I4.hok a _ ea).1
     refine⟨rv,I4.kIn _ _ lC,⟨t',some d,g1⟩,?_⟩
     refine hx pins σ _ s' a t' (.ref C) (some d) (I4.forget ea) ⟨I1.nw hex m.new C0x,.none,g1,.inl rfl,fun T z=>nomatch z⟩ (z d _ (fun b ob q=>?_) nd ?_)
     . have nb:b≠a:=D0 q na
       have nbd:b≠d:=D0 q nd
       rw[A4y nb,C9 nbd,C9 nb,C9 nb]
       exact q
     . rw[A4y nda,A8]
   |next=>exact hq.elim
   |brk=>exact hq.elim
   |cont=>exact hq.elim
end
section
variable{X:Cx}{e:Expr}{f:Str}{pos:Pos}{ta:TE}
end
noncomputable def A7x (z:Str) (n:Int):Str:=if n<1 then Str.empty else if(n==1||z.length==0)=true then z else⟨(List.replicate n.toNat z.cps).foldl (· ++ ·) #[]⟩
noncomputable def Z1g:R2:=fun x y H Q=>∃z n,x= .str z/\y= .int n/\ -(2^63)<=n/\n<2^63/\z.length*n.toNat<=sizeLine/\Q (.str (A7x z n)) H
theorem D0n(z:Array Nat):∀(k:Nat) (acc:Array Nat),((List.replicate k z).foldl (· ++ ·) acc).toList=acc.toList++(List.replicate k z.toList).flatten
 |0,acc=>by simp
 | k+1,acc=>by
   rw[List.replicate_succ,List.foldl_cons,D0n z k,Array.toList_append,List.replicate_succ,List.flatten_cons,List.append_assoc]
theorem A0n(z:Str):z.cps.toList.length=z.length:=Array.length_toList
theorem B9f(z:Str)(n:Int):(A7x z n).cps.toList=(List.replicate n.toNat z.cps.toList).flatten:=by
 unfold A7x
 split
 . have:n.toNat=0:=by omega
   rw[this];rfl
 . split
   . rename_i h1 h2
     rcases Bool.or_eq_true _ _|>.mp h2 with h|h
     . have:n=1:=by simpa using h
       subst this
       simp
     . have e:z.length=0:=by simpa using h
       have e2:z.cps.toList=[]:=List.eq_nil_of_length_eq_zero (by rw[A0n];exact e)
       rw[e2]
       have:∀k:Nat,(List.replicate k ([]:List Nat)).flatten=[]:=fun k=>by simp
       rw[this]
   . show((List.replicate n.toNat z.cps).foldl (· ++ ·) #[]).toList=_
     rw[D0n]
     rfl
theorem C1z(z:Str)(n:Int):(A7x z n).length=n.toNat*z.length:=by
 rw[<-A0n,B9f,J7k,A0n]
section
variable{X:Cx}
theorem G8m:OpR X (binaryOp .Mult) Z1g:=by
 intro pins s σ H x y v u Q I rx ry h
 obtain⟨z,n,rfl,rfl,h1,h2,hz,q⟩:=h
 obtain⟨t,rfl⟩:=rx
 obtain⟨t',rfl⟩:=ry
 have lo:¬n< -(2^63:Int):=by omega
 have hi:¬n>=(2^63:Int):=by omega
 have hl:=C1z z n
 have hs:(A7x z n).length<=sizeLine:=by rw[hl,Nat.mul_comm];exact hz
 refine PySem.P.mul_str (by rw[decide_eq_false lo,decide_eq_false hi];rfl) (fun n1 n2=>?_) (fun n1 n2=>Y5h hz) ?_
 . intro g
   have p:0<n:=by omega
   have e:((z.length*n.toNat:Nat):Int)=(z.length:Int)*n:=by rw[Int.natCast_mul,Int.toNat_of_nonneg (by omega)]
   have c:((z.length*n.toNat:Nat):Int)<=(sizeLine:Nat):=Int.ofNat_le.mpr hz
   have k:(sizeLine:Nat)<=2^63-1:=by decide
   have k':((sizeLine:Nat):Int)<=(2^63-1:Int):=by
     have:=Int.ofNat_le.mpr k
     exact this
   have:(z.length:Int)<=(2^63-1)/n:=(Int.le_ediv_iff_mul_le p).mpr (by omega)
   omega
 . unfold A7x at q hs
   split
   . rw[if_pos (by assumption)] at q
     exact⟨by decide,.str _,H,I.tok _,⟨_,rfl⟩,q⟩
   . rw[if_neg (by assumption)] at q hs
     split
     . rw[if_pos (by assumption)] at q
       exact⟨.str _,H,I,⟨_,rfl⟩,q⟩
     . rw[if_neg (by assumption)] at q hs
       exact⟨hs,.str _,H,I.tok _,⟨_,rfl⟩,q⟩
theorem C6p:A7z X (.type "int") (fun xs H Q=>∃z n,xs=[.str z]/\PySem.intText? z=some n/\z.length<=640/\Q (.int n) H):=by
 intro pins s σ H xs us Q I r h
 obtain⟨z,n,rfl,h1,h2,q⟩:=h
 obtain⟨u,rfl,t,rfl⟩:=C1r r
 exact KIN.call_text h1 h2 ⟨.int n,H,I.tok _,⟨_,rfl⟩,q⟩
end
noncomputable def U0w (n:Nat):Str:=("1":Str)++A7x ("0":Str) (n:Int)
theorem J9x(n:Nat):(List.replicate n [48]).flatten=List.replicate n 48:=by
 induction n with
 |zero=>rfl
 |succ n ih=>rw[List.replicate_succ,List.flatten_cons,ih,List.replicate_succ];rfl
theorem B1k(n:Nat):(U0w n).cps.toList=49::List.replicate n 48:=by
 unfold U0w
 show(("1":Str).cps++(A7x ("0":Str) (n:Int)).cps).toList=_
 rw[Array.toList_append,B9f]
 have a:("1":Str).cps.toList=[49]:=by decide+kernel
 have b:("0":Str).cps.toList=[48]:=by decide+kernel
 rw[a,b]
 show [49]++(List.replicate n [48]).flatten=_
 rw[J9x]
 rfl
theorem G1x(n:Nat):(U0w n).length=n+1:=by
 rw[<-A0n,B1k]
 simp
theorem G8f(n:Nat):∀a:Nat,(List.replicate n 48).foldl (fun acc c=>acc*10+(c-48)) a=a*10^n:=by
 induction n with
 |zero=>intro a;simp
 | succ n ih=>
   intro a
   rw[List.replicate_succ,List.foldl_cons,ih,Nat.pow_succ]
   show(a*10+0)*10^n=_
   rw[Nat.add_zero,Nat.mul_assoc,Nat.mul_comm 10]
theorem U9v(n:Nat)(h:n<=600):PySem.intText? (U0w n)=some ((10^n:Nat):Int):=by
 have e:PySem.NumText.digitsVal (U0w n).cps.toList=10^n:=by
   rw[B1k]
   unfold PySem.NumText.digitsVal
   rw[List.foldl_cons,G8f]
   show(0*10+1)*10^n=_
   omega
 rw[<-e]
 refine PySem.intText_digits ?_ ?_ ?_
 . rw[B1k]
   intro c hc
   rcases List.mem_cons.mp hc with rfl|hc
   . exact⟨by decide,by decide⟩
   . obtain⟨_,rfl⟩:=List.mem_replicate.mp hc
     exact⟨by decide,by decide⟩
 . rw[B1k];exact fun z=>nomatch z
 . rw[G1x];omega
section
variable{X:Cx}
noncomputable def Z5g:V ->List V ->Hp ->VK ->Prop:=fun x vs H Q=>∃i,x= .int i/\vs=[]/\Q (.int ((Builtin.Int.intBits i:Nat):Int)) H
theorem C6k:MtR X "int.bit_length" Z5g:=by
 intro pins s σ H x xs v us Q I rx rs h
 obtain⟨i,rfl,rfl,q⟩:=h
 obtain⟨t,rfl⟩:=rx
 cases rs
 exact call_int_bit_length ⟨.int _,H,I.tok _,⟨_,rfl⟩,q⟩
end
noncomputable def tOrI (ta tb:TE):TE:=fun σ H Q=>ta σ H fun x H1=>∃i,x= .int i/\if i=0 then tb σ H1 Q else Q (.int i) H1
section
variable{X:Cx}{a b:Expr}{rest:List Expr}{pos:Pos}{ta tb:TE}
theorem Y9j(ha:PE X a ta)(hb:PE X (.BoolOp .Or (b::rest) pos) tb):PE X (.BoolOp .Or (a::b::rest) pos) (tOrI ta tb):=by
 intro pins s σ H Q I h
 refine BoolOp_or (thn (ha pins s σ H _ I h) fun v s1 hh_=>?_)
 obtain⟨x,H1,I1,r1,q1⟩:=hh_
 obtain⟨i,rfl,q1⟩:=q1
 obtain⟨t,rfl⟩:=r1
 refine PySem.P.truthy_int ?_
 by_cases hi:i=0
 . rw[if_pos hi] at q1
   subst hi
   exact hb pins s1 σ H1 Q I1 q1
 . rw[if_neg hi] at q1
   rw[show(i !=0)=true by simpa using hi]
   exact⟨.int i,H1,I1,⟨_,rfl⟩,q1⟩
end
section
variable{X:Cx}{j k:Nat}{f C:Addr}{fd:FuncData}{ps:List Str}{sp:Sp}{dvs:List V}{ds:List Value}{x m:Str}{p pos apos:Pos}{e o:Expr}{es:List Expr}{ta:TE}{t:TA}{st:Stmt}
end
section
variable{X:Cx}{N F:List Str}{js:List Nat}{scope:Scope}
end
section
variable{X:Cx}{pins:List (Addr×Obj)}{σ:St}{H:Hp}{s:Shared}{h':Heap}
end
section
variable{X:Cx}{es:List Expr}{k:Nat}{tp:Pos}
end
noncomputable def Z4u (D:Addr) (H H':Hp):Prop:=∀b o,H b=some o ->b≠D ->H' b=some o
theorem U8p{J:It}{g:TG}{tc:TT}{te:TE}{σ0:St}{H1:Hp}{QD:Addr ->Hp ->Prop}{n:Nat}(f:Nat ->Bool)(R:Nat ->V ->Hp ->Prop)(hn:n<=1000)
   (mono:∀i y H' H'' D l,R i y H' ->H' D=some (.lst l) ->Z4u D H' H'' ->R i y H'')
   (step:∀(i:Nat) (H2:Hp) (Qy:VK) (Qn:Hp ->Prop),i<n ->Same H1 H2 ->(f i=true ->∀y H6,Same H2 H6 ->R i y H6 ->Qy y H6) ->(f i=false ->∀H6,Same H2 H6 ->Qn H6) ->J.go i H2/\∀x H3,J.yld i H2 x H3 ->g x σ0 H3 fun σ4 H4=>tc σ4 H4 fun b H5=>if b=true then te σ4 H5 Qy else Qn H5)
   (stop:∀H2,Same H1 H2 ->J.stop n H2)
   (k:∀D H' ys,Same H1 H' ->H1 D=none ->H' D=some (.lst ys) ->ys.length=((List.range n).filter f).length ->(∀(j i:Nat) (y:V),((List.range n).filter f)[j]?=some i ->ys[j]?=some y ->R i y H') ->QD D H'):∀D,H1 D=none ->
   ∃ (m:Nat) (W:Nat ->List V ->Hp ->Prop),W 0 [] (upd H1 D (.lst []))/\∀i ys H2,W i ys H2 ->i<=m/\H2 D=some (.lst ys)/\((J.stop i H2/\QD D H2)\/(i<m/\J.go i H2/\∀x H3,J.yld i H2 x H3 ->
     g x σ0 H3 fun σ4 H4=>tc σ4 H4 fun b H5=>if b=true then te σ4 H5 fun y H6=>H6 D=some (.lst ys)/\ys.length<sizeLine/\W (i+1) (ys++ [y]) (upd H6 D (.lst (ys++ [y]))) else W (i+1) ys H5)):=by
 intro D hD
 refine⟨n,fun i ys H2=>i<=n/\ys.length=((List.range i).filter f).length/\H2 D=some (.lst ys)/\Same H1 H2/\∀(j i':Nat) (y:V),((List.range i).filter f)[j]?=some i' ->ys[j]?=some y ->R i' y H2,⟨Nat.zero_le _,rfl,A8,Same.upd hD,fun j i' y h=>by simp at h⟩,?_⟩
 rintro i ys H2 ⟨hi,hl,hd,sm,hR⟩
 refine⟨hi,hd,?_⟩
 by_cases hlt:i<n
 . have fl :((List.range i).filter f).length<=i:=Nat.le_trans (List.length_filter_le _ _) (by simp)
   refine .inr ⟨hlt,step i H2 _ _ hlt sm (fun hf y H6 s6 r6=>?_) (fun hf H6 s6=>?_)⟩
   . have d6:H6 D=some (.lst ys):=s6 _ _ hd
     have ex:Z4u D H6 (upd H6 D (.lst (ys++ [y]))):=fun b o e hb=>by rw[C9 hb];exact e
     have ef:(List.range (i+1)).filter f=(List.range i).filter f++ [i]:=by rw[List.range_succ,List.filter_append,List.filter_cons,hf];rfl
     refine⟨d6,Nat.lt_of_le_of_lt (by omega:ys.length<=1000) (V9 (Nat.le_refl _)),hlt,by rw[ef,List.length_append,List.length_append,hl];rfl,A8,fun b o e=>?_,fun j i' z hi' hj=>?_⟩
     . rw[C9 (D0 e hD)]
       exact s6 _ _ (sm _ _ e)
     . rw[ef] at hi'
       by_cases hj':j<ys.length
       . rw[List.getElem?_append_left hj'] at hj
         rw[List.getElem?_append_left (by omega)] at hi'
         exact mono i' z H6 _ D ys (mono i' z H2 H6 D ys (hR j i' z hi' hj) hd fun b o e _=>s6 _ _ e) d6 ex
       . rw[List.getElem?_append_right (by omega)] at hj
         rw[List.getElem?_append_right (by omega)] at hi'
         have e0:j-ys.length=0:=by
           apply Classical.byContradiction
           intro q
           rw[List.getElem?_eq_none (by simp;omega)] at hj
           cases hj
         rw[e0] at hj
         rw[<-hl,e0] at hi'
         cases hj
         cases hi'
         exact mono _ _ H6 _ D ys r6 d6 ex
   . have ef:(List.range (i+1)).filter f=(List.range i).filter f:=by rw[List.range_succ,List.filter_append,List.filter_cons,hf];simp
     refine⟨hlt,by rw[ef];exact hl,s6 _ _ hd,sm.trans s6,fun j i' z hi' hj=>?_⟩
     rw[ef] at hi'
     exact mono i' z H2 H6 D ys (hR j i' z hi' hj) hd fun b o e _=>s6 _ _ e
 . have e:i=n:=by omega
   subst e
   exact .inl ⟨stop H2 sm,k D H2 ys sm hD hd hl hR⟩
open AutoSeq1 (wpAny_loadPart')
section
variable{prog:Program}{w:World}{A:Around}{E:Value ->Shared ->Prop}{s:Shared}
end
section
variable{X:Cx}{es:List Expr}{k:Nat}{tp:Pos}
end
end L2
namespace L2
open PySem PySem.Spec PyProof.Rows PySem.W
section
variable{X:Cx}
end
end L2
namespace L2
open PySem PySem.W PyProof.Rows
section
variable{X:Cx}{o e:Expr}{ta:TE}{m:Str}{apos pos:Pos}{j k:Nat}{ps:List Str}{ι:Type}{cw f:ι ->Addr}{fd:ι ->FuncData}{sp:ι ->Sp}{EH:EK}
end
section
variable{X:Cx}{a b e o:Expr}{es:List Expr}{ta tb te to:TE}{t:TA}{pos:Pos}{st:Stmt}{rest:List Stmt}{ts u:TS}
end
end L2
namespace L2
open PySem PySem.Spec PyProof.Rows PySem.W
section
variable{X:Cx}{x f:Str}{p cpos pos:Pos}{e:Expr}{t:TA}{C fI:Addr}{fdI:FuncData}{ps:List Str}{j k:Nat}
end
section
variable{X:Cx}{x y:Str}{e:Expr}{t:TE}{p q:Pos}{pos pos2:Pos}
end
end L2
namespace L2
open PySem PySem.Spec PyProof.Rows
end L2
namespace L2
open PySem PySem.Spec PyProof.Rows PySem.W
mutual
inductive RdR(H:Hp):V ->PyData ->Prop where
 |non:RdR H .non .none
 |bl (b:Bool):RdR H (.bl b) (.bool b)
 |int (i:Int):RdR H (.int i) (.int i)
 |str (x:Str):RdR H (.str x) (.str x)
 |tup {a:Addr} {xs:List V} {ds:List PyData} (h:H a=some (.tup xs)) (r:RdRs H xs ds):RdR H (.ref a) (.tuple ds)
 |lst {a:Addr} {xs:List V} {ds:List PyData} (h:H a=some (.lst xs)) (n:a≠sysModules) (r:RdRs H xs ds):RdR H (.ref a) (.list ds)
 |dct0 {a:Addr} (h:H a=some (.dK [])):RdR H (.ref a) (.dict [])
 |dct1 {a:Addr} {z:Str} {b:Bool} (h:H a=some (.dK [(.inr z,.bl b)])):RdR H (.ref a) (.dict [(.str z,.bool b)])
inductive RdRs(H:Hp):List V ->List PyData ->Prop where
 |nil:RdRs H [] []
 |cons {x:V} {xs:List V} {d:PyData} {ds:List PyData} (h:RdR H x d) (r:RdRs H xs ds):RdRs H (x::xs) (d::ds)
end
mutual
theorem RdR.same{H H':Hp}(s:∀b o,H b=some o ->H' b=some o):∀{x:V} {d:PyData},RdR H x d ->RdR H' x d
 |_,_,.non=> .non
 |_,_,.bl b=> .bl b
 |_,_,.int i=> .int i
 |_,_,.str x=> .str x
 |_,_,.tup h r=> .tup (s _ _ h) (RdRs.same s r)
 |_,_,.lst h n r=> .lst (s _ _ h) n (RdRs.same s r)
 |_,_,.dct0 h=> .dct0 (s _ _ h)
 |_,_,.dct1 h=> .dct1 (s _ _ h)
theorem RdRs.same{H H':Hp}(s:∀b o,H b=some o ->H' b=some o):∀{x:List V} {d:List PyData},RdRs H x d ->RdRs H' x d
 |_,_,.nil=> .nil
 |_,_,.cons h r=> .cons (RdR.same s h) (RdRs.same s r)
end
section
variable{X:Cx}
mutual
theorem RdR.reads{pins:List (Addr×Obj)}{σ:St}{H:Hp}{s:Shared}(I:Inv X pins σ H s):∀{x:V} {d:PyData} {u:Value},RdR H x d ->RelV x u ->∃as,Reads s.heap u d as/\sysModules ∉ as
 |_,_,_,.non,r=>by cases r;exact⟨_,.none,by simp⟩
 |_,_,_,.bl b,r=>by cases r;exact⟨_,.bool b,by simp⟩
 |_,_,_,.int i,r=>by obtain⟨t,rfl⟩:=r;exact⟨_,.int i t,by simp⟩
 |_,_,_,.str x,r=>by obtain⟨t,rfl⟩:=r;exact⟨_,.str x t,by simp⟩
 | _,_,_,.tup h q,r=>by
   cases r
   obtain⟨_,its,rv,o,e,c,n,d⟩:=I.hok _ _ h
   obtain⟨as,z,y⟩:=RdRs.reads I q rv
   exact⟨_,.tuple e c d (by simpa using z),y⟩
 | _,_,_,.lst (a:=a) h nn q,r=>by
   cases r
   obtain⟨_,its,n,rv,e⟩:=I.hok _ _ h
   obtain⟨as,z,y⟩:=RdRs.reads I q rv
   refine⟨_,.list e rfl rfl (by simpa using z),fun hm=>?_⟩
   rcases List.mem_cons.mp hm with hm|hm
   . exact nn hm.symm
   . exact y hm
 | _,_,_,.dct0 (a:=a) h,r=>by
   cases r
   obtain⟨_,nS,vs,kv,o,es,ep,e,c,d,_,ps,_⟩:=I.hok _ _ h
   cases kv
   cases hp:es.toList with
   |cons _ _=>rw[hp] at ps;cases ps
   | nil=>
     refine⟨_,.dict (kvs:=[]) e c.1 d (by rw[hp];exact .nil) (by rw[hp];exact .nil),fun hm=>?_⟩
     exact beq_eq_false_iff_ne.mp nS (by simpa using hm:sysModules=a).symm
 | _, _, _,.dct1 (a:=a) (z:=z) (b:=b) h,r=>by
   cases r
   obtain⟨_,nS,vs,kv,o,es,ep,e,c,d,_,ps,_⟩:=I.hok _ _ h
   cases kv with
   | cons k1 k2=>
     cases k2
     obtain⟨k1a,k1b⟩:=k1
     cases ps':es.toList with
     |nil=>rw[ps'] at ps;cases ps
     | cons en rest=>
       rw[ps'] at ps
       cases ps with
       | cons p1 p2 p3=>
         cases p3
         have hk:∃t,en.key= .str z t:=by
           rw[<-k1a] at p1
           have p1:Value.isStrOf z en.key=true:=p1
           cases hk:en.key<;>rw[hk] at p1<;>simp[Value.isStrOf] at p1
           subst p1
           exact⟨_,rfl⟩
         obtain⟨t,hk⟩:=hk
         have hv:en.val= .bool b:=p2.trans k1b
         refine⟨_,.dict (kvs:=[(.str z,.bool b)]) e c.1 d (by rw[ps'];show ReadsAll s.heap [en.key] [.str z] _;rw[hk];exact .cons (.str z t) .nil) (by rw[ps'];show ReadsAll s.heap [en.val] [.bool b] _;rw[hv];exact .cons (.bool b) .nil),fun hm=>?_⟩
         exact beq_eq_false_iff_ne.mp nS (by simpa using hm:sysModules=a).symm
theorem RdRs.reads{pins:List (Addr×Obj)}{σ:St}{H:Hp}{s:Shared}(I:Inv X pins σ H s):∀{xs:List V} {ds:List PyData} {us:List Value},RdRs H xs ds ->Vals xs us ->∃as,ReadsAll s.heap us ds as/\sysModules ∉ as
 |_,_,_,.nil,r=>by cases r;exact⟨_,.nil,by simp⟩
 | _,_,_,.cons h q,r=>by
   cases r with
   | cons r1 r2=>
     obtain⟨as,z,n1⟩:=RdR.reads I h r1
     obtain⟨bs,y,n2⟩:=RdRs.reads I q r2
     exact⟨_,.cons z y,by simp[n1,n2]⟩
end
end
section
variable{X:Cx}{j k:Nat}{f C:Addr}{fd:FuncData}{ps:List Str}{sp:Sp}{dvs:List V}{ds:List Value}{x m:Str}{p pos apos:Pos}{e o:Expr}{es:List Expr}{ta:TE}{t:TA}{st:Stmt}
end
section
variable{cs:List Addr}{H H' H2:Hp}{b:Addr}{P:Program}{w:World}{h h':Heap}{fs:List Addr}
end
section
variable{X:Cx}{j k:Nat}{f:Addr}{fd:FuncData}{ps:List Str}{sp:Sp}{ds:List Value}{EH:EK}{x:Str}{p pos:Pos}{e:Expr}{es:List Expr}{t:TA}{st:Stmt}
end
section
variable{X:Cx}
end
section
variable{X:Cx}{tg:Expr}
end
section
variable{X:Cx}
end
section
variable{prog:Program}{w:World}{A:Around}{E:Value ->Shared ->Prop}{s:Shared}
end
section
variable{X:Cx}{pos:Pos}
end
section
variable{X:Cx}{pos tpos pa pb:Pos}
end
section
variable{X:Cx}{N F:List Str}{js:List Nat}{scope:Scope}
end
noncomputable def Itq (lo c:Int) (n:Nat):It:=⟨fun i _=>i<n,fun i H x H'=>H'=H/\x= .int (lo+i*c),fun i _=>n<=i⟩
theorem G3m{P:Program}{w:World}{K:PySem.W.Frag}{tg:Expr}(it:Addr)(lo c:Int)(n:Nat):Turn P w K tg (Itq lo c n) [it] it (fun i h=>IsRangeIter h it (lo+(i:Nat)*c) ((n:Int)- (i:Nat)) c) where
 mem:=by simp
 obj :=fun i h st b hb=>by
   have e:b=it:=by simpa using hb
   subst e
   exact⟨_,st,fun v z=>by
     have z':Data.fields _=Data.cell v:=z
     cases z'⟩
 keep:=fun i h h' st k=>k it (by simp) _ st
 item:=by
   intro X hP hw hK hc i pins s σ H E I hf st hg
   subst hP hw hK
   obtain⟨f0,f1,f2,f3,f4,f5⟩:=hf it (by simp)
   have W:=Walks.range (prog:=X.prog) (w:=X.w) (I.ok.hd hc) it lo c n
   refine W.item i s _ _ hg st fun v h' tk hv st' kk=>?_
   obtain⟨t,rfl⟩:=hv
   have I1:Inv X pins σ H {s with heap:=h',toks:=tk}:=I.turned (fun b o hb e=>kk b o (by simpa using hb) e) f0 f1 f3 f4 f5
   exact⟨_,rfl,G2b (s:={s with heap:=h',toks:=tk}) (n:="range_iterator") st' rfl rfl (by decide) ⟨.int (lo+i*c),H,I1,⟨t,rfl⟩,⟨rfl,rfl⟩,st',fun b hb=>(hf b hb).1⟩⟩
 done:=by
   intro X hP hw hK hc i pins s σ H E I hf st hg
   subst hP hw hK
   obtain⟨f0,f1,f2,f3,f4,f5⟩:=hf it (by simp)
   exact wpAny_pyNext_range_end (I.ok.hd hc) st (by have:n<=i:=hg;omega) fun h' eb=>⟨rfl,I.turned (t':=s.toks) (fun b o hb e=>eb b o hb e) f0 f1 f3 f4 f5⟩
 self:=fun _ _ _ _ _ st h=>wpAny_pyIter_rangeiter st h
section
variable{X:Cx}{tg:Expr}
theorem J9k{pins:List (Addr×Obj)}{σ:St}{H:Hp}{s:Shared}{R:It ->Hp ->Prop}{E:Value ->Shared ->Prop}{lo hi c:Int}{n:Nat}{t u v:Tok}{tk:Nat}(I:Inv X pins σ H s)(hs:Builtin.Range.small lo hi c=true)(hn:Builtin.Range.rangeSize lo hi c=n)
   (q:R (Itq lo c n) H):wpAny (model X.prog X.w) X.A (pyIter (.ref s.heap.objs.size)) (PIE X pins σ tg R) E {s with heap:=s.heap.push {cls:= .type "range",data:= .fields #[.int lo t,.int hi u,.int c v]},toks:=tk}:=by
 refine wpAny_pyIter_range (IsRange.new ..) hs ?_
 have I1:Inv X pins σ H {s with heap:=s.heap.push {cls:= .type "range",data:= .fields #[.int lo t,.int hi u,.int c v]},toks:=tk}:=I.kept fun b o e=>Heap.get?_push_of_some _ e
 refine⟨(s.heap.push {cls:= .type "range",data:= .fields #[.int lo t,.int hi u,.int c v]}).objs.size,[(s.heap.push {cls:= .type "range",data:= .fields #[.int lo t,.int hi u,.int c v]}).objs.size],_,_,H,rfl,
   I1.kept (t':=tk) fun b o e=>Heap.get?_push_of_some _ e,G3m _ lo c n,?_,fun b hb=>?_,q⟩
 . have e1:lo+((0:Nat):Int)*c=lo:=by simp
   have e2:((n:Nat):Int)- ((0:Nat):Int)=Builtin.Range.rangeSize lo hi c:=by rw[hn];simp
   show IsRangeIter _ _ (lo+((0:Nat):Int)*c) ((n:Int)- ((0:Nat):Int)) c
   rw[e1,e2]
   exact Heap.get?_push_size _ rfl
 . have e:b=(s.heap.push {cls:= .type "range",data:= .fields #[.int lo t,.int hi u,.int c v]}).objs.size:=by simpa using hb
   subst e
   exact I1.fpOk (Nat.le_refl _) (I1.hok.fresh (Nat.le_refl _))
noncomputable def Z5p (ta:TA):TI:=fun σ H R=>ta σ H fun vs H1=>∃i j c:Int,∃n:Nat,vs=[.int i,.int j,.int c]/\c≠0/\Builtin.divisionGoesByPylong (j-i) c=false/\Builtin.Range.small i j c=true/\Builtin.Range.rangeSize i j c=n/\R (Itq i c n) H1
theorem J9g{a b c:Expr}{ta:TA}{p pos:Pos}(hg:Gl X "range")(hm:X.mg "range"=none)(ha:PA X [a,b,c] ta)(hs:starEach [a,b,c] X.env=[(false,eval a X.env),(false,eval b X.env),(false,eval c X.env)]:=by rfl)(hs2:starEach [b,c] X.env=[(false,eval b X.env),(false,eval c X.env)]:=by rfl):
   PI X tg (.Call (.Name "range" p) [a,b,c] [] pos) (Z5p ta):=by
 intro pins s σ H R I h
 refine Call_ (C1w I hg hm boot_range (PyProof.Rows.callWith_type1 (thn (ha pos pins s σ H _ I h) fun us s1 hh_=>?_) (by rw[hs,hs2]) (by rw[hs2];rfl)))
 obtain⟨vs,H1,I1,r1,q1⟩:=hh_
 obtain⟨i,j,c,n,e,q1,q2,q3,q4,q⟩:=q1
 subst e
 cases r1 with
 | cons r rr=>
   cases rr with
   | cons r' rr=>
     cases rr with
     | cons r'' rr=>
       cases rr
       obtain⟨t,rfl⟩:=r
       obtain⟨t',rfl⟩:=r'
       obtain⟨t'',rfl⟩:=r''
       exact call_range_3 q1 (J9k I1 q3 q4 q) (.inl q2)
end
section
variable{X:Cx}{pins:List (Addr×Obj)}{σ:St}{H:Hp}{s:Shared}
end
section
variable{X:Cx}{tg:Expr}
end
end L2
namespace TR
open PySem L2 PySem.W PyProof.Rows
structure OwnK(K:Frag):Prop where
 isi:nsIn K mainGlobals "isinstance"=some none
 int_:nsIn K mainGlobals "int"=some none
 bool_:nsIn K mainGlobals "bool"=some none
 str_:nsIn K mainGlobals "str"=some none
 list_:nsIn K mainGlobals "list"=some none
 tuple_:nsIn K mainGlobals "tuple"=some none
 dict_:nsIn K mainGlobals "dict"=some none
 len_:nsIn K mainGlobals "len"=some none
 range_:nsIn K mainGlobals "range"=some none
 min_:nsIn K mainGlobals "min"=some none
 max_:nsIn K mainGlobals "max"=some none
 abs_:nsIn K mainGlobals "abs"=some none
 any_:nsIn K mainGlobals "any"=some none
 all_:nsIn K mainGlobals "all"=some none
 sum_:nsIn K mainGlobals "sum"=some none
 repr_:nsIn K mainGlobals "repr"=some none
 enumerate_:nsIn K mainGlobals "enumerate"=some none
 reversed_:nsIn K mainGlobals "reversed"=some none
 zip_:nsIn K mainGlobals "zip"=some none
 sorted_:nsIn K mainGlobals "sorted"=some none
 divmod_:nsIn K mainGlobals "divmod"=some none
 set_:nsIn K mainGlobals "set"=some none
 ValueError_:nsIn K mainGlobals "ValueError"=some none
seal PE PS PSs PA PT PW PG PGs PI PO
noncomputable def top (i:Nat):Stmt:=PySem.Challenge.pw_tenreckon_k13_whole_neighbours.main.body.getD i (.Pass ⟨0,0,0,0⟩)
noncomputable abbrev D2p:Stmt:=(top 22)
section
variable{P:Program}{w:World}{K:Frag}{mg:Str ->Option Value}{base:Heap}
noncomputable def Z5e (K:Frag):Sp:=fun vs H Q _=>∃v lo hi,vs=[v,.int lo,.int hi]/\((G3h lo hi v/\Q (.bl true) H)\/(G8k K H lo hi v/\Q (.bl false) H))
theorem Z6m:FnScope ["thing","least","most"] ["thing","least","most"] (A2 D2p):=scK
theorem V0c(D:Def K mg "is_between" ["thing","least","most"] D2p f fd)(O:Own mg)(T:Kit K):FnOk P w K mg base (CX1 P w) 1 f fd ["thing","least","most"] (Z5e K):=by
 refine FnOk.up (D.F.ok Z6m (fun vs H Q E h=>?_) (fun cdv A outer s H vs Q E hr h=>?_))
 . obtain⟨v,lo,hi,rfl,_⟩:=h
   rfl
 . obtain ⟨v,lo,hi,rfl,h⟩:=h
   refine⟨_,(A4 (G6 (PW.pt (B9n (A2b (V3 (U0p O.isi (pv 0) (pty O.int_ boot_int)))) (B5r (V3 (U0p O.isi (pv 0) (pty O.bool_ boot_bool)))))) (A6 (B3 A1h)) C6)
     (A6 (B3 (A2j (D3 J6e (pv 0) (pv 1) (B5 _)) (Y7 (D3 J6v (pv 0) (pv 2) (B5 _))))))),?_⟩
   rcases h with⟨⟨i,rfl,h1,h2⟩,k⟩|⟨⟨t,b1,b2,ty,k1,k2,bad⟩,k⟩
   . refine⟨_,rfl,_,_,_,_,true,rfl,rfl,Y8n i,T.int_int,_,rfl,J4 ?_⟩
     refine⟨_,rfl,_,_,_,_,false,rfl,rfl,Y8n i,T.int_bool,_,rfl,J4 ?_⟩
     refine⟨_,rfl,_,rfl,_,_,rfl,rfl,_,rfl,U7 h1 ?_⟩
     refine⟨_,rfl,_,rfl,_,_,rfl,rfl,?_⟩
     show Q (.bl (decide (i<=hi))) H
     rw[decide_eq_true h2]
     exact k
   . refine⟨_,rfl,_,_,_,_,b1,rfl,rfl,ty,k1,_,rfl,?_⟩
     cases b1 with
     |false=>exact V2 (V2 k)
     | true=>
       refine J4 ⟨_,rfl,_,_,_,_,b2,rfl,rfl,ty,k2,_,rfl,?_⟩
       cases b2 with
       |true=>exact V2 k
       | false=>
         obtain⟨i,rfl,out⟩:=bad.resolve_left (by decide)
         refine J4 ⟨_,rfl,_,rfl,_,_,rfl,rfl,_,rfl,V0 (fun h1=>?_) (fun h1=>?_)⟩
         . refine⟨_,rfl,_,rfl,_,_,rfl,rfl,?_⟩
           show Q (.bl (decide (i<=hi))) H
           rw[decide_eq_false (by omega:¬i<=hi)]
           exact k
         . exact k
end
structure Err(K:Frag)(mg:Str ->Option Value)(x:Str)(CB:Addr):Prop where
 g:mg x=some (.ref CB)
 q:excIn K CB [.type "ValueError",.type "Exception",.type "BaseException",.type "object"] "ValueError.__new__"=true
noncomputable def C6j (lo hi:Int):Prop:=lo.natAbs.log2<1920/\hi.natAbs.log2<1920/\(Str.ofString (toString lo)).length<=100/\(Str.ofString (toString hi)).length<=100
noncomputable abbrev A2a:Stmt:=(top 51)
section
variable{P:Program}{w:World}{K:Frag}{mg:Str ->Option Value}{base:Heap}
noncomputable def D0x (K:Frag) (CB:Addr):Sp:=fun vs H Q E=>∃v lo hi,vs=[v,.int lo,.int hi]/\C6j lo hi/\((G3h lo hi v/\Q v H)\/(G8k K H lo hi v/\E (.ref CB) none H))
theorem U0s:FnScope ["thing","least","most"] ["thing","least","most"] (A2 A2a):=scK
theorem G6w{f f1 CB:Addr}(D:Def K mg "bounded" ["thing","least","most"] A2a f fd)(D1:Def K mg "is_between" ["thing","least","most"] D2p f1 fd1)(O:Own mg)(T:Kit K)(B:Err K mg "BadContext" CB):
   FnOk P w K mg base (CX1 P w) 2 f fd ["thing","least","most"] (D0x K CB):=by
 have G1:=V0c (P:=P) (w:=w) (base:=base) D1 O T
 refine D.F.okE U0s (fun vs H Q E h=>?_) (fun X cdv A outer s H vs Q E hX hr hx h=>?_)
 . obtain⟨v,lo,hi,rfl,_⟩:=h
   rfl
 . subst hX
   obtain⟨v,lo,hi,rfl,⟨l1,l2,l3,l4⟩,h⟩:=h
   refine⟨_,(A4 (G6 (A2b (V3 (C8 D1 G1 hr hx (A0 (pv 0) (A0 (pv 1) (A0 (pv 2) A5))))))
     (A6 (A2c (by rfl) B.g B.q PySem.F.excBase_ValueError hr.hd hx (A0 (J7g (.cons .lit (.cons (.int (pv 1)) (.cons .lit (.cons (.int (pv 2)) .nil))))) A5))) C6)
     (A6 (B3 (pv 0)))),?_⟩
   rcases h with⟨g,k⟩|⟨bad,k⟩
   . exact⟨_,rfl,_,rfl,_,rfl,_,_,_,rfl,.inl ⟨g,_,rfl,J4 ⟨_,rfl,k⟩⟩⟩
   . have a0:Str.empty.length=0:=rfl
     have a1:(Str.ofString "not a whole number from ").length=24:=by decide+kernel
     have a2:(Str.ofString " to ").length=4:=by decide+kernel
     have sz:∀{n:Nat},n<=1000 ->n<=sizeLine:=fun h=>Nat.le_of_lt (V9 h)
     refine⟨_,rfl,_,rfl,_,rfl,_,_,_,rfl,.inr ⟨bad,_,rfl,V2 ?_⟩⟩
     exact⟨_,rfl,sz (by rw[strLen_append];omega),_,rfl,_,rfl,l1,_,rfl,sz (by rw[strLen_append,strLen_append];omega),_,rfl,sz (by rw[strLen_append,strLen_append,strLen_append];omega),_,rfl,_,rfl,l2,_,rfl,sz (by rw[strLen_append,strLen_append,strLen_append,strLen_append];omega),sz (by rw[strLen_append,strLen_append,strLen_append,strLen_append];omega),sz (by show 1<=1000;decide),k⟩
end
noncomputable abbrev A2g:Stmt:=(top 23)
section
variable{P:Program}{w:World}{K:Frag}{mg:Str ->Option Value}{base:Heap}
noncomputable def J9t (K:Frag) (CB:Addr):Sp:=fun vs H Q E=>∃v lo hi,vs=[v,.int lo,.int hi]/\C6j lo hi/\
 ((G3h lo hi v/\Q .non H)\/(G8k K H lo hi v/\E (.ref CB) none H))
theorem J9m:FnScope ["thing","least","most"] ["thing","least","most"] (A2 A2g):=scK
theorem G7p{f f1 CB:Addr}(D:Def K mg "need_between" ["thing","least","most"] A2g f fd)(D1:Def K mg "is_between" ["thing","least","most"] D2p f1 fd1)(O:Own mg)(T:Kit K)(B:Err K mg "BadNumber" CB):
   FnOk P w K mg base (CX1 P w) 2 f fd ["thing","least","most"] (J9t K CB):=by
 have G1:=V0c (P:=P) (w:=w) (base:=base) D1 O T
 refine D.F.okE J9m (fun vs H Q E h=>?_) (fun X cdv A outer s H vs Q E hX hr hx h=>?_)
 . obtain⟨v,lo,hi,rfl,_⟩:=h
   rfl
 . subst hX
   obtain⟨v,lo,hi,rfl,⟨l1,l2,l3,l4⟩,h⟩:=h
   refine⟨_,(A6 (G6 (A2b (V3 (C8 D1 G1 hr hx (A0 (pv 0) (A0 (pv 1) (A0 (pv 2) A5))))))
     (A6 (A2c (by rfl) B.g B.q PySem.F.excBase_ValueError hr.hd hx (A0 (J7g (.cons .lit (.cons (.int (pv 1)) (.cons .lit (.cons (.int (pv 2)) .nil))))) A5))) C6)),?_⟩
   rcases h with⟨g,k⟩|⟨bad,k⟩
   . exact⟨_,rfl,_,rfl,_,rfl,_,_,_,rfl,.inl ⟨g,_,rfl,J4 k⟩⟩
   . have a0:Str.empty.length=0:=rfl
     have a1:(Str.ofString "not a whole number from ").length=24:=by decide+kernel
     have a2:(Str.ofString " to ").length=4:=by decide+kernel
     have sz:∀{n:Nat},n<=1000 ->n<=sizeLine:=fun h=>Nat.le_of_lt (V9 h)
     refine⟨_,rfl,_,rfl,_,rfl,_,_,_,rfl,.inr ⟨bad,_,rfl,V2 ?_⟩⟩
     exact⟨_,rfl,sz (by rw[strLen_append];omega),_,rfl,_,rfl,l1,_,rfl,sz (by rw[strLen_append,strLen_append];omega),_,rfl,sz (by rw[strLen_append,strLen_append,strLen_append];omega),_,rfl,_,rfl,l2,_,rfl,sz (by rw[strLen_append,strLen_append,strLen_append,strLen_append];omega),sz (by rw[strLen_append,strLen_append,strLen_append,strLen_append];omega),sz (by show 1<=1000;decide),k⟩
end
noncomputable abbrev C9y:Stmt:=(D7 (top 17) 0)
noncomputable abbrev B9j:Stmt:=(top 19)
noncomputable abbrev A8f:Stmt:=(top 21)
structure Num(K:Frag)(mg:Str ->Option Value)(CN:Addr):Prop where
 g:mg "Number"=some (.ref CN)
 cl:Cls K CN
 n1:NoAttr K CN "kind"
 n2:NoAttr K CN "sign"
 n3:NoAttr K CN "figures"
 n4:NoAttr K CN "power"
 ca:findIn K (.ref CN) "__class__"=some (some (.builtin "object.__class__"))
 sn:specialIn K (.builtin "object.__class__") "__get__"=some (some (.builtin "getset_descriptor.__get__"))
 tk:takesIn K (.builtin "object.__class__")=some true
 ob:mroIn K CN (.type "object")=some true
 self:kitOne K (.ref CN) (.ref CN)=some true
noncomputable def C6n (k s f p:V):List (Str×V):=U1 "power" p (U1 "figures" f (U1 "sign" s (U1 "kind" k [])))
theorem e12:¬(("kind":Str)="sign"):=by decide+kernel
theorem e13:¬(("kind":Str)="figures"):=by decide+kernel
theorem e14:¬(("kind":Str)="power"):=by decide+kernel
theorem e23:¬(("sign":Str)="figures"):=by decide+kernel
theorem e24:¬(("sign":Str)="power"):=by decide+kernel
theorem e34:¬(("figures":Str)="power"):=by decide+kernel
theorem Z6z(k s f p:V):(C6n k s f p).lookup ("kind":Str)=some k:=by unfold C6n;rw[D4,if_neg e14,D4,if_neg e13,D4,if_neg e12,D4,if_pos rfl]
theorem U6m(k s f p:V):(C6n k s f p).lookup ("sign":Str)=some s:=by unfold C6n;rw[D4,if_neg e24,D4,if_neg e23,D4,if_pos rfl]
theorem U6u(k s f p:V):(C6n k s f p).lookup ("figures":Str)=some f:=by unfold C6n;rw[D4,if_neg e34,D4,if_pos rfl]
theorem J9u(k s f p:V):(C6n k s f p).lookup ("power":Str)=some p:=by unfold C6n;rw[D4,if_pos rfl]
noncomputable def NumAt (CN:Addr) (H:Hp) (n:Addr) (k s f p:V):Prop:=∃dx,H n=some (.ins CN dx (C6n k s f p))
theorem NumAt.same{CN:Addr}{H H':Hp}{n:Addr}{k s f p:V}(h:NumAt CN H n k s f p)(e:Same H H'):NumAt CN H' n k s f p:=by
 obtain⟨dx,z⟩:=h
 exact⟨dx,e _ _ z⟩
theorem Num.ty{K:Frag}{mg:Str ->Option Value}{CN:Addr}(N:Num K mg CN){H:Hp}{n:Addr}{k s f p:V}(h:NumAt CN H n k s f p):TyE K H (.ref n) (.ref CN):=by
 obtain⟨dx,z⟩:=h
 exact .of (.ins z N.cl N.ca N.sn N.tk N.ob)
section
variable{P:Program}{w:World}{K:Frag}{mg:Str ->Option Value}{base:Heap}
noncomputable def D2q (CN:Addr):Sp:=fun vs H Q _=>∃(p dx:Addr) (k s f pw:V),vs=[.ref p,k,s,f,pw]/\H p=some (.ins CN dx [])/\∀H',H' p=some (.ins CN dx (C6n k s f pw)) ->(∀b o,H b=some o ->b≠p ->H' b=some o) ->Q .non H'
theorem Y9h:FnScope ["self","kind","sign","figures","power"] ["self","kind","sign","figures","power"] (A2 C9y):=scK
theorem Y5y{f CN:Addr}(F:Fun K "__init__" "Number.__init__" C9y f fd)(N:Num K mg CN):FnOk P w K mg base CX0 1 f fd ["self","kind","sign","figures","power"] (D2q CN):=by
 refine F.ok Y9h (fun vs H Q E h=>?_) (fun cdv A outer s H vs Q E hr h=>?_)
 . obtain⟨p,dx,a,b,c,d,rfl,_⟩:=h
   rfl
 . obtain⟨p,dx,a,b,c,d,rfl,hp,k⟩:=h
   refine⟨_,A4 (Y0 (pv 0) (pv 1) rfl) (A4 (Y0 (pv 0) (pv 2) rfl) (A4 (Y0 (pv 0) (pv 3) rfl) (A6 (Y0 (pv 0) (pv 4) rfl)))),?_⟩
   have l:∀(fs:List (Str×V)) (f:Str) (v:V) (n:Nat),fs.length<=n ->(U1 f v fs).length<=n+1:=fun fs f v n h=>Nat.le_trans (Y9 f v fs) (Nat.succ_le_succ h)
   refine⟨_,rfl,_,rfl,p,CN,dx,[],rfl,hp,N.cl,N.n1,(by show 0<1000;decide),?_⟩
   refine⟨_,rfl,_,rfl,p,CN,dx,_,rfl,A8,N.cl,N.n2,Nat.lt_of_le_of_lt (l _ _ _ 0 (Nat.le_refl _)) (by decide),?_⟩
   refine⟨_,rfl,_,rfl,p,CN,dx,_,rfl,A8,N.cl,N.n3,Nat.lt_of_le_of_lt (l _ _ _ 1 (l _ _ _ 0 (Nat.le_refl _))) (by decide),?_⟩
   refine⟨_,rfl,_,rfl,p,CN,dx,_,rfl,A8,N.cl,N.n4,Nat.lt_of_le_of_lt (l _ _ _ 2 (l _ _ _ 1 (l _ _ _ 0 (Nat.le_refl _)))) (by decide),?_⟩
   refine k _ A8 fun b o e hb=>?_
   rw[C9 hb,C9 hb,C9 hb,C9 hb]
   exact e
structure MakeN(P:Program)(w:World)(K:Frag)(mg:Str ->Option Value)(base:Heap)(CN fI:Addr)(fdI:FuncData):Prop where
 m:Mk K CN fI
 g:FnOk P w K mg base CX0 1 fI fdI ["self","kind","sign","figures","power"] (D2q CN)
 b:Binds K fdI ["self","kind","sign","figures","power"] []
theorem made{CN:Addr}{H:Hp}{Q:VK}{k s f p:V}(h:∀n H',H n=none ->Same H H' ->NumAt CN H' n k s f p ->Q (.ref n) H'):
   ∀x dx,H x=none ->H dx=none ->dx≠x ->D2q CN (.ref x::([k,s,f,p]++ [])) (upd (upd H dx (.own x)) x (.ins CN dx [])) (fun v H2=>v= .non/\Q (.ref x) H2) E0:=by
 intro x dx nx nd ne
 refine⟨x,dx,k,s,f,p,rfl,A8,fun H' e kp=>⟨rfl,h x H' nx (fun b o z=>?_) ⟨dx,e⟩⟩⟩
 refine kp b o ?_ (D0 z nx)
 rw[C9 (D0 z nx),C9 (D0 z nd)]
 exact z
noncomputable def U9n (K:Frag) (CN:Addr) (H:Hp) (v:V):Prop:=∃t,TyE K H v t/\kitOne K t (.ref CN)=some false
noncomputable def J7a (K:Frag) (CN CB:Addr):Sp:=fun vs H Q E=>∃v,vs=[v]/\((∃n k s f p,v= .ref n/\NumAt CN H n k s f p/\Q v H)\/(U9n K CN H v/\E (.ref CB) none H))
theorem Y6f:FnScope ["thing"] ["thing"] (A2 A8f):=scK
theorem G2q{f CN CB:Addr}(D:Def K mg "need_number" ["thing"] A8f f fd)(O:Own mg)(T:Kit K)(B:Err K mg "BadNumber" CB)(N:Num K mg CN):FnOk P w K mg base (CX1 P w) 1 f fd ["thing"] (J7a K CN CB):=by
 refine D.F.okE Y6f (fun vs H Q E h=>?_) (fun X cdv A outer s H vs Q E hX hr hx h=>?_)
 . obtain⟨v,rfl,_⟩:=h
   rfl
 . subst hX
   obtain⟨v,rfl,h⟩:=h
   refine⟨_,(A4 (G6 (A2b (V3 (U0p O.isi (pv 0) (Z0s N.g)))) (A6 (A2c (by rfl) B.g B.q PySem.F.excBase_ValueError hr.hd hx (A0 B9 A5))) C6)
     (A6 (B3 (pv 0)))),?_⟩
   rcases h with⟨n,a,b,c,d,rfl,hn,k⟩|⟨⟨t,ty,k1⟩,k⟩
   . exact⟨_,rfl,_,_,_,_,true,rfl,rfl,N.ty hn,N.self,_,rfl,J4 ⟨_,rfl,k⟩⟩
   . exact⟨_,rfl,_,_,_,t,false,rfl,rfl,ty,k1,_,rfl,V2 ⟨Nat.le_of_lt (V9 (by show 1<=1000;decide)),k⟩⟩
noncomputable def G7w (K:Frag) (CN CB:Addr):Sp:=fun vs H Q E=>∃v,vs=[v]/\((∃n k s f p,v= .ref n/\NumAt CN H n k s f p/\∀t,H t=none ->Q (.ref t) (upd H t (.tup [k,s,f,p])))\/(U9n K CN H v/\E (.ref CB) none H))
theorem Y9g:FnScope ["number"] ["number"] (A2 B9j):=scK
theorem Y6b{f f1 CN CB:Addr}(D:Def K mg "told" ["number"] B9j f fd)(dA:Def K mg "need_number" ["thing"] A8f f1 fd1)(O:Own mg)(T:Kit K)(B:Err K mg "BadNumber" CB)(N:Num K mg CN):
   FnOk P w K mg base (CX1 P w) 2 f fd ["number"] (G7w K CN CB):=by
 have G_need_number:=G2q (P:=P) (w:=w) (base:=base) dA O T B N
 refine D.F.okE Y9g (fun vs H Q E h=>?_) (fun X cdv A outer s H vs Q E hX hr hx h=>?_)
 . obtain⟨v,rfl,_⟩:=h
   rfl
 . subst hX
   obtain⟨v,rfl,h⟩:=h
   refine⟨_,(A4 (A2y (C8 dA G_need_number hr hx (A0 (pv 0) A5)))
     (A6 (B3 (Y1 (A0 (G3 (pv 0) rfl) (A0 (G3 (pv 0) rfl) (A0 (G3 (pv 0) rfl) (A0 (G3 (pv 0) rfl) A5)))))))),?_⟩
   rcases h with⟨n,a,b,c,d,rfl,hn,k⟩|⟨bad,k⟩
   . refine⟨_,rfl,_,rfl,.inl ⟨n,a,b,c,d,rfl,hn,?_⟩⟩
     obtain⟨dx,e⟩:=hn
     exact⟨_,rfl,n,CN,dx,_,_,rfl,e,N.cl,N.n1,Z6z _ _ _ _,_,rfl,n,CN,dx,_,_,rfl,e,N.cl,N.n2,U6m _ _ _ _,_,rfl,n,CN,dx,_,_,rfl,e,N.cl,N.n3,U6u _ _ _ _,_,rfl,n,CN,dx,_,_,rfl,e,N.cl,N.n4,J9u _ _ _ _,
       Nat.le_of_lt (V9 (by show 4<=1000;decide)),k⟩
   . exact⟨_,rfl,_,rfl,.inr ⟨bad,k⟩⟩
end
noncomputable abbrev G7r:Stmt:=(top 18)
section
variable{P:Program}{w:World}{K:Frag}{mg:Str ->Option Value}{base:Heap}
theorem b01:C6j 0 1:=by unfold C6j;decide+kernel
noncomputable def Y8k (K:Frag) (CN CB:Addr):Sp:=fun vs H Q E=>∃x,vs=[x]/\((G3h 0 1 x/\∀n H',H n=none ->Same H H' ->NumAt CN H' n (.str "end") x (.int 0) (.int 0) ->Q (.ref n) H')\/(G8k K H 0 1 x/\E (.ref CB) none H))
theorem Z4q:FnScope ["sign"] ["sign"] (A2 G7r):=scK
theorem Z0z{f f1 f2 fI CN CB:Addr}{fd fd1 fd2 fdI:FuncData}(D:Def K mg "end" ["sign"] G7r f fd)(dA:Def K mg "need_between" ["thing","least","most"] A2g f1 fd1)(D2:Def K mg "is_between" ["thing","least","most"] D2p f2 fd2)
   (O:Own mg) (T:Kit K) (B:Err K mg "BadNumber" CB) (N:Num K mg CN) (M:MakeN P w K mg base CN fI fdI):FnOk P w K mg base (CX1 P w) 3 f fd ["sign"] (Y8k K CN CB):=by
 have G_need_between:=G7p (P:=P) (w:=w) (base:=base) dA D2 O T B
 refine D.F.okE Z4q (fun vs H Q E h=>?_) (fun X cdv A outer s H vs Q E hX hr hx h=>?_)
 . obtain⟨x,rfl,_⟩:=h
   rfl
 . subst hX
   obtain⟨x,rfl,h⟩:=h
   refine⟨_,(A4 (A2y (C8 dA G_need_between hr hx (A0 (pv 0) (A0 A3 (A0 A3 A5)))))
     (A6 (B3 (Y5n M.m M.g hr rfl N.g M.b .nil Z6d (A0 B9 (A0 (pv 0) (A0 A3 (A0 A3 A5)))))))),?_⟩
   rcases h with⟨⟨i1,rfl,l1,u1⟩,k⟩|⟨bad,k⟩
   . refine⟨_,rfl,_,_,_,rfl,b01,.inl ⟨⟨i1,rfl,l1,u1⟩,?_⟩⟩
     exact⟨_,rfl,made k⟩
   . exact⟨_,rfl,_,_,_,rfl,b01,.inr ⟨bad,k⟩⟩
end
noncomputable abbrev C1n:Stmt:=(top 20)
section
variable{P:Program}{w:World}{K:Frag}{mg:Str ->Option Value}{base:Heap}
noncomputable def U9b (CN:Addr):Sp:=fun vs H Q _=>∃n k s f p,vs=[.ref n]/\NumAt CN H n k s (.int f) (.int p)/\f.natAbs<2^300/\Q (.int (p+((Str.ofString (toString f)).length:Nat)-1)) H
theorem Y9t:FnScope ["number"] ["number"] (A2 C1n):=scK
theorem Y5k{f CN:Addr}(D:Def K mg "lead_of" ["number"] C1n f fd)(O:Own mg)(N:Num K mg CN):FnOk P w K mg base (CX1 P w) 1 f fd ["number"] (U9b CN):=by
 refine D.F.okE Y9t (fun vs H Q E h=>?_) (fun X cdv A outer s H vs Q E hX hr hx h=>?_)
 . obtain⟨n,a,b,c,d,rfl,_⟩:=h
   rfl
 . subst hX
   obtain⟨n,a,b,fg,pw,rfl,⟨dx,e⟩,hf,k⟩:=h
   refine⟨_,(A6 (B3 (A7 G9 (A7 D9 (G3 (pv 0) rfl) (J2 U9 (by rfl) O.len_ PySem.boot_len (A0 (J8 U3 (by rfl) O.str_ boot_str (A0 (G3 (pv 0) rfl) A5)) A5))) A3))),?_⟩
   have lg:fg.natAbs.log2<1920:=Nat.lt_trans (V5 hf (by decide)) (by decide)
   exact⟨_,rfl,n,CN,dx,_,_,rfl,e,N.cl,N.n4,J9u _ _ _ _,_,rfl,n,CN,dx,_,_,rfl,e,N.cl,N.n3,U6u _ _ _ _,_,rfl,lg,_,rfl,int_text_fits lg,_,_,rfl,rfl,_,_,rfl,rfl,k⟩
end
noncomputable abbrev Y6:Stmt:=(top 2)
noncomputable abbrev A0d:Stmt:=(top 3)
theorem B9y{x k:Nat}(h:x<2^k)(hk:k<=1048576):Builtin.Int.intBits (x:Int)<=2^20:=by
 unfold Builtin.Int.intBits
 split
 . exact Nat.zero_le _
 . have z:(x:Int).natAbs≠0:=by
     intro z
     rename_i hz
     exact hz (by simpa using z)
   have:(x:Int).natAbs.log2<k:=(Nat.log2_lt z).mpr h
   have e:(2:Nat)^20=1048576:=by decide
   omega
theorem C0j{b s j n:Nat}(hb:b<2^s)(hj:j<=n)(hn:n*s<1048576):Builtin.Int.intBits ((b^j:Nat):Int)<=2^20:=by
 refine B9y (k:=n*s+1) ?_ hn
 have a:b^j<=(2^s)^j:=Nat.pow_le_pow_left (Nat.le_of_lt hb) j
 have c:(2^s)^j<=2^(n*s):=by
   rw[<-Nat.pow_mul,Nat.mul_comm n s]
   exact Nat.pow_le_pow_right (by decide) (Nat.mul_le_mul_left s hj)
 have d:2^(n*s)<2^(n*s+1):=Nat.pow_lt_pow_right (by decide) (by omega)
 exact Nat.lt_of_le_of_lt a (Nat.lt_of_le_of_lt c d)
theorem B5u{b s i j n:Nat}(hb:b<2^s)(hi:i<=n)(hj:j<=n)(hn:n*s<1048576):IntMulOk ((b^i:Nat):Int) ((b^j:Nat):Int):=IntMulOk.of_bits (C0j hb hi hn) (C0j hb hj hn)
section
variable{P:Program}{w:World}{K:Frag}{mg:Str ->Option Value}{base:Heap}
noncomputable def B9g:Sp:=fun vs H Q _=>∃b n s:Nat,vs=[.int (b:Int),.int (n:Int)]/\b<2^s/\n*s<1048576/\Q (.int ((b^n:Nat):Int)) H
theorem scProductOf:FnScope ["whole","count","product"] ["whole","count"] (A2 Y6):=scK
theorem D2b(D:Def K mg "product_of" ["whole","count"] Y6 f fd):FnOk P w K mg base (CX1 P w) 1 f fd ["whole","count"] B9g:=by
 refine FnOk.up (D.F.ok scProductOf (fun vs H Q E h=>?_) (fun cdv A outer s H vs Q E hr h=>?_))
 . obtain⟨b,n,z,rfl,_⟩:=h
   rfl
 . obtain ⟨b,n,z,rfl,hb,hn,k⟩:=h
   refine⟨_,(A4 (C5 (i:=2) scProductOf.nd rfl (Or.inl rfl) A3)
     (A4 (A2d PassesOwn.never (C4 B2e (pv 1) A3 (B5 _)) (A4 (G6 (C4 G4 (A7 J1 (pv 1) A3) A3 (B5 _)) (A6 (C5 (i:=2) scProductOf.nd rfl (Or.inl rfl) (A7 D6 (pv 2) (pv 0)))) C6)
     (A4 (C5 (i:=0) scProductOf.nd rfl (Or.inl rfl) (A7 D6 (pv 0) (pv 0)))
     (A6 (C5 (i:=1) scProductOf.nd rfl (Or.inl rfl) (A7 D5 (pv 1) A3))))))
     (A6 (B3 (pv 2))))),?_⟩
   have d2:(0:Int)<2/\(2:Int).natAbs.log2<9000:=⟨by decide,by decide+kernel⟩
   refine A2q (fun σ H2=>H2=H/\∃i m c:Nat,m+i*c=n/\σ=[some (.int ((b^i:Nat):Int)),some (.int (c:Int)),some (.int ((b^m:Nat):Int))]) (fun σ _=>match σ with| [_,some (.int c),_]=>c.toNat|_=>0) ?_ ?_ ?_
   . exact⟨rfl,1,0,n,by omega,by rw[Nat.pow_one];rfl⟩
   . rintro σ H2 ⟨rfl,i,m,c,hc,rfl⟩
     refine⟨_,rfl,_,_,rfl,rfl,_,rfl,V0 (fun h0=>?_) (fun h0=>?_)⟩
     . have c1:1<=c:=by
         have:(0:Int)<c:=h0
         omega
       have hi:i<=n:=Nat.le_trans (Nat.le_mul_of_pos_right i c1) (by omega)
       have hm:m<=n:=by omega
       have sq:((b^i:Nat):Int)*((b^i:Nat):Int)=((b^(2*i):Nat):Int):=by rw[Nat.two_mul,Nat.pow_add];rfl
       have lt:((c:Int)/2).toNat<(c:Int).toNat:=by omega
       refine⟨_,rfl,_,_,rfl,rfl,d2.1,rfl,_,rfl,V0 (fun ho=>?_) (fun he=>?_)⟩
       . have ho:(c:Int) % 2=1:=by injection ho
         have mu:((b^m:Nat):Int)*((b^i:Nat):Int)=((b^(m+i):Nat):Int):=by rw[Nat.pow_add];rfl
         refine⟨_,rfl,_,rfl,_,_,rfl,rfl,B5u hb hm hi hn,_,rfl,_,rfl,_,_,rfl,rfl,B5u hb hi hi hn,_,rfl,_,_,rfl,rfl,d2,⟨rfl,2*i,m+i,c/2,?_,?_⟩,lt⟩
         . have e:i*c=i*(2*(c/2)+1):=congrArg (i* ·) (by omega)
           rw[Nat.mul_add,Nat.mul_one, <-Nat.mul_assoc,Nat.mul_comm i 2] at e
           omega
         . show [some (V.int (((b^i:Nat):Int)*((b^i:Nat):Int))),some (V.int ((c:Int)/2)),some (V.int (((b^m:Nat):Int)*((b^i:Nat):Int)))]=_
           rw[sq,mu]
           rfl
       . have he:¬(c:Int) % 2=1:=fun z=>he (congrArg V.int z)
         refine⟨_,rfl,_,rfl,_,_,rfl,rfl,B5u hb hi hi hn,_,rfl,_,_,rfl,rfl,d2,⟨rfl,2*i,m,c/2,?_,?_⟩,lt⟩
         . have e:i*c=i*(2*(c/2)):=congrArg (i* ·) (by omega)
           rw[<-Nat.mul_assoc,Nat.mul_comm i 2] at e
           omega
         . show [some (V.int (((b^i:Nat):Int)*((b^i:Nat):Int))),some (V.int ((c:Int)/2)),some (V.int ((b^m:Nat):Int))]=_
           rw[sq]
           rfl
     . have c0:c=0:=by
         have:¬(0:Int)<c:=h0
         omega
       subst c0
       have hm:m=n:=by omega
       subst hm
       exact⟨_,rfl,k⟩
   . rintro σ H2 Q1 Q2 hQ ⟨v,e,i,j,e1,e2,b,e3,q⟩
     exact⟨v,e,i,j,e1,e2,b,e3,hQ _ _ q⟩
noncomputable def A5a:Sp:=fun vs H Q _=>∃n:Nat,vs=[.int (n:Int)]/\n<=4000/\Q (.int ((10^n:Nat):Int)) H
theorem Y5z:FnScope ["count"] ["count"] (A2 A0d):=scK
theorem U9m(D:Def K mg "ten_to" ["count"] A0d f fd)(dA:Def K mg "product_of" ["whole","count"] Y6 f1 fd1)(dB:FnOk P w K mg base (CX1 P w) 1 f1 fd1 ["whole","count"] B9g):FnOk P w K mg base (CX1 P w) 2 f fd ["count"] A5a:=by
 refine FnOk.up (D.F.ok Y5z (fun vs H Q E h=>?_) (fun cdv A outer s H vs Q E hr h=>?_))
 . obtain⟨n,rfl,_⟩:=h
   rfl
 . obtain⟨n,rfl,hn,k⟩:=h
   have hx:G5 (A0a CX0 P w K mg base ["count"] "ten_to" (A2 A0d) f cdv A outer s H E).nox EKF:=U2
   refine⟨_,(A6 (B3 (C8 dA dB hr hx (A0 A3 (A0 (pv 0) A5))))),?_⟩
   exact⟨_,rfl,10,n,4,rfl,by decide,by omega,k⟩
end
inductive Kd where
 |plain|end_|none
noncomputable def Kd.str:Kd ->Str
 | .plain=>"plain"
 | .end_=>"end"
 | .none=>"none"
theorem Kd.str_inj{a b:Kd}(h:a.str=b.str):a=b:=by
 cases a<;>cases b<;>first|rfl|exact absurd h (by decide+kernel)
structure Nm where
 k:Kd
 s:Int
 f:Int
 p:Int
noncomputable def Nm.vs (x:Nm):List V:=[.str x.k.str,.int x.s,.int x.f,.int x.p]
noncomputable def NumIs (CN:Addr) (H:Hp) (n:Addr) (x:Nm):Prop:=NumAt CN H n (.str x.k.str) (.int x.s) (.int x.f) (.int x.p)
theorem NumIs.same{CN:Addr}{H H':Hp}{n:Addr}{x:Nm}(h:NumIs CN H n x)(e:Same H H'):NumIs CN H' n x:=NumAt.same h e
noncomputable def A1 (n:Int):Int:=((10^n.toNat:Nat):Int)
theorem B8(n:Int):0<A1 n:=Int.natCast_pos.mpr (Nat.pow_pos (by decide))
theorem eqS{a b:Kd}(h:V.str a.str=V.str b.str):a=b:=Kd.str_inj (by injection h)
section
variable{P:Program}{w:World}{K:Frag}{mg:Str ->Option Value}{base:Heap}
theorem D0z{d:Int}(h:d<=4000):Builtin.Int.intBits (A1 d)<=2^20:=C0j (b:=10) (s:=4) (n:=4000) (by decide) (by omega) (by decide)
end
section
variable{P:Program}{w:World}{K:Frag}{mg:Str ->Option Value}{base:Heap}
end
noncomputable def Y5 (left low:Int):Int:=(if decide (0<left)=true then 1 else 0)+(if decide (low<=2*left)=true then 1 else 0)+(if decide (low<2*left)=true then 1 else 0)
theorem U8u(s:Int):(if(0:Int)>s then 0 else s)=((s.toNat:Nat):Int):=by
 by_cases h:(0:Int)>s
 . rw[if_pos h];omega
 . rw[if_neg h];omega
noncomputable def A1j (t b s:Int):Prop:=b*A1 (-s)<=t*A1 s/\t*A1 s<10*(b*A1 (-s))
theorem A0f{s r:Int}(h:s<=r):A1 r*A1 (-s)=A1 s*A1 (-r)*A1 (r-s):=by
 have ad:∀{a b c:Int},0<=a ->0<=b ->c=a+b ->A1 c=A1 a*A1 b:=fun ha hb e=>by
   subst e
   unfold A1
   rw[Int.toNat_add ha hb,Nat.pow_add]
   exact Int.natCast_mul _ _
 have z:∀{a:Int},a<=0 ->A1 a=1:=fun h=>by
   unfold A1
   rw[Int.toNat_of_nonpos h]
   rfl
 rcases Int.le_total 0 s with hs|hs
 . rw[z (a:= -s) (by omega),z (a:= -r) (by omega),Int.mul_one,Int.mul_one]
   exact ad hs (by omega) (by omega)
 . rcases Int.le_total 0 r with hr|hr
   . rw[z hs,z (a:= -r) (by omega),Int.one_mul,Int.one_mul]
     exact(ad hr (by omega) (by omega)).symm
   . rw[z hr,z hs,Int.one_mul,Int.one_mul]
     exact ad (by omega) (by omega) (by omega)
theorem D2k{d:Int}(h:1<=d):10<=A1 d:=by
 unfold A1
 have:10^1<=10^d.toNat:=Nat.pow_le_pow_right (by decide) (by omega)
 omega
theorem D8{a b:Int}(h:a<=b):A1 a<=A1 b:=by
 unfold A1
 exact Int.ofNat_le.mpr (Nat.pow_le_pow_right (by decide) (by omega))
theorem J6y{t b s r:Int}(hb:0<b)(h1:A1j t b s)(h2:A1j t b r):r<=s:=by
 apply Classical.byContradiction
 intro h
 have hs:s<=r:=by omega
 have c:=A0f hs
 have g:=D2k (d:=r-s) (by omega)
 have p1:=B8 (-s)
 have p2:=B8 (-r)
 have l1:0<b*A1 (-s):=Int.mul_pos hb p1
 have l2:0<b*A1 (-r):=Int.mul_pos hb p2
 have e:t*A1 r*(b*A1 (-s))=t*A1 s*(b*A1 (-r))*A1 (r-s):=by
   calc t*A1 r*(b*A1 (-s))=t*b*(A1 r*A1 (-s)):=by ac_rfl
     _=t*b*(A1 s*A1 (-r)*A1 (r-s)):=by rw[c]
     _=t*A1 s*(b*A1 (-r))*A1 (r-s):=by ac_rfl
 have a1:t*A1 r*(b*A1 (-s))<10*(b*A1 (-r))*(b*A1 (-s)):=Int.mul_lt_mul_of_pos_right h2.2 l1
 have hp:0<t*A1 s:=Int.lt_of_lt_of_le l1 h1.1
 have a2:t*A1 s*(b*A1 (-r))*10<=t*A1 s*(b*A1 (-r))*A1 (r-s):=Int.mul_le_mul_of_nonneg_left g (Int.le_of_lt (Int.mul_pos hp l2))
 have a3:b*A1 (-s)*(b*A1 (-r))<=t*A1 s*(b*A1 (-r)):=Int.mul_le_mul_of_nonneg_right h1.1 (Int.le_of_lt l2)
 have e2:10*(b*A1 (-r))*(b*A1 (-s))=b*A1 (-s)*(b*A1 (-r))*10:=by ac_rfl
 have a4:b*A1 (-s)*(b*A1 (-r))*10<=t*A1 s*(b*A1 (-r))*10:=Int.mul_le_mul_of_nonneg_right a3 (by decide)
 rw[e] at a1
 rw[e2] at a1
 exact absurd (Int.lt_of_lt_of_le a1 (Int.le_trans a4 a2)) (Int.lt_irrefl _)
theorem Y4j{t b s r:Int}(hb:0<b)(h1:A1j t b s)(h2:A1j t b r):s=r:=Int.le_antisymm (J6y hb h2 h1) (J6y hb h1 h2)
noncomputable def Sz (t:Int):Prop:=1<=t/\t<A1 1000
theorem D2j(n:Nat):10^n<=2^(4*n):=by
 rw[Nat.pow_mul]
 exact Nat.pow_le_pow_left (by decide) n
theorem G2c(n:Nat):10^(3*n)<=2^(10*n):=by
 rw[Nat.pow_mul,Nat.pow_mul]
 exact Nat.pow_le_pow_left (by decide) n
theorem Sz.nat{t:Int}(h:Sz t):∃n:Nat,t=(n:Int)/\1<=n/\n<10^1000:=by
 obtain⟨n,rfl⟩:=Int.eq_ofNat_of_zero_le (show 0<=t by have:=h.1;omega)
 exact⟨n,rfl,Int.ofNat_le.mp h.1,Int.ofNat_lt.mp h.2⟩
theorem D1y{t s:Int}(ht:Sz t)(h:s<=1500):∃n:Nat,t*A1 s=(n:Int)/\n<10^2502:=by
 obtain⟨n,rfl,_,hn⟩:=ht.nat
 refine⟨n*10^s.toNat,rfl,?_⟩
 have a:10^s.toNat<=10^1502:=Nat.pow_le_pow_right (by decide) (by omega)
 calc n*10^s.toNat<=n*10^1502:=Nat.mul_le_mul_left n a
   _<10^1000*10^1502:=Nat.mul_lt_mul_of_pos_right hn (Nat.pow_pos (by decide))
   _=10^2502:=by rw[<-Nat.pow_add]
theorem G2h{n:Nat}(h:n<10^2502):Builtin.Int.intBits (n:Int)<=2^20:=B9y (k:=4*2502) (Nat.lt_of_lt_of_le h (D2j 2502)) (by decide)
theorem Y4f{t:Int}(h:Sz t):Builtin.Int.intBits t<=2^20:=by
 obtain⟨n,rfl,_,hn⟩:=h.nat
 exact B9y (k:=4*1000) (Nat.lt_of_lt_of_le hn (D2j 1000)) (by decide)
theorem U7j{t s:Int}(ht:Sz t)(h:s<=1500):IntMulOk t (A1 s):=IntMulOk.of_bits (Y4f ht) (D0z (by omega))
theorem Z0h{b s:Int}(hb:Sz b)(h:s<=1500):(b*A1 s).natAbs.log2<9000:=by
 obtain⟨n,e,hn⟩:=D1y hb h
 rw[e]
 have:n<2^8340:=Nat.lt_of_lt_of_le hn (G2c 834)
 exact Nat.lt_trans (V5 (i:=(n:Int)) (k:=8340) (by rw[Int.natAbs_natCast];exact this) (by decide)) (by decide)
noncomputable def whI (t b s:Int):Int:=t*A1 s/(b*A1 (-s))
noncomputable def ptI (t b s:Int):Int:=Y5 (t*A1 s-whI t b s*(b*A1 (-s))) (b*A1 (-s))
theorem J6f{t b s:Int}(hb:0<b):0<=t*A1 s-whI t b s*(b*A1 (-s))/\t*A1 s-whI t b s*(b*A1 (-s))<b*A1 (-s):=by
 have l:=Int.mul_pos hb (B8 (-s))
 have e:=Int.emod_add_mul_ediv (t*A1 s) (b*A1 (-s))
 have a:=Int.emod_nonneg (t*A1 s) (Int.ne_of_gt l)
 have c:=Int.emod_lt_of_pos (t*A1 s) l
 have e2:whI t b s*(b*A1 (-s))=b*A1 (-s)*(t*A1 s/(b*A1 (-s))):=Int.mul_comm _ _
 omega
theorem Z6y{t b s:Int}(ht:Sz t)(hb:Sz b)(h1: -1500<=s)(h2:s<=1500):IntMulOk (whI t b s) (b*A1 (-s)):=by
 obtain⟨n,e,hn⟩:=D1y hb (s:= -s) (by omega)
 obtain⟨k,e',hk⟩:=D1y ht h2
 unfold whI
 rw[e,e']
 exact IntMulOk.of_bits (G2h (Nat.lt_of_le_of_lt (Nat.div_le_self k n) hk)) (G2h hn)
noncomputable abbrev A4v:Stmt:=(D7 (top 6) 0)
structure RatC(K:Frag)(mg:Str ->Option Value)(CR CE:Addr):Prop where
 g:mg "Ratio"=some (.ref CR)
 ge:mg "Exact"=some (.ref CE)
 cl:Cls K CR
 n_top:NoAttr K CR "top"
 n_bottom:NoAttr K CR "bottom"
 n_power:NoAttr K CR "power"
 ca:findIn K (.ref CR) "__class__"=some (some (.builtin "object.__class__"))
 sn:specialIn K (.builtin "object.__class__") "__get__"=some (some (.builtin "getset_descriptor.__get__"))
 tk:takesIn K (.builtin "object.__class__")=some true
 ob:mroIn K CR (.type "object")=some true
 up:kitOne K (.ref CR) (.ref CE)=some true
noncomputable def D3b (t b n:V):List (Str×V):=U1 "power" n (U1 "bottom" b (U1 "top" t []))
theorem C2d(t b n:V)(x:Str):(D3b t b n).lookup x=if x="power" then some n else if x="bottom" then some b else if x="top" then some t else none:=by
 unfold D3b
 rw[D4,D4,D4]
 rfl
theorem J6z(t b n:V):(D3b t b n).lookup ("top":Str)=some t:=by rw[C2d,if_neg (by decide+kernel),if_neg (by decide+kernel),if_pos rfl]
theorem C1p(t b n:V):(D3b t b n).lookup ("bottom":Str)=some b:=by rw[C2d,if_neg (by decide+kernel),if_pos rfl]
theorem D0r(t b n:V):(D3b t b n).lookup ("power":Str)=some n:=by rw[C2d,if_pos rfl]
theorem D2t(t b n:V):(D3b t b n).lookup ("first":Str)=none:=by rw[C2d,if_neg (by decide+kernel),if_neg (by decide+kernel),if_neg (by decide+kernel)]
theorem D0p(t b n:V):(D3b t b n).lookup ("at":Str)=none:=by rw[C2d,if_neg (by decide+kernel),if_neg (by decide+kernel),if_neg (by decide+kernel)]
noncomputable def RatAt (CR:Addr) (H:Hp) (x:Addr) (t b n:Int):Prop:=∃dx,H x=some (.ins CR dx (D3b (.int t) (.int b) (.int n)))
theorem RatAt.same{CR:Addr}{H H':Hp}{x:Addr}{t b n:Int}(h:RatAt CR H x t b n)(s:Same H H'):RatAt CR H' x t b n:=by
 obtain⟨dx,e⟩:=h
 exact⟨dx,s _ _ e⟩
section
variable{P:Program}{w:World}{K:Frag}{mg:Str ->Option Value}{base:Heap}
noncomputable def D1z (CR:Addr):Sp:=fun vs H Q _=>∃(p dx:Addr) (t b n:V),vs=[.ref p,t,b,n]/\H p=some (.ins CR dx [])/\∀H',H' p=some (.ins CR dx (D3b t b n)) ->Exc p H H' ->Q .non H'
theorem Y4n:FnScope ["self","top","bottom","power"] ["self","top","bottom","power"] (A2 A4v):=scK
theorem U6q{f CR CE:Addr}{dV:Value}(F:FunD K "__init__" "Ratio.__init__" A4v dV f fd)(R:RatC K mg CR CE):FnOk P w K mg base (CX1 P w) 1 f fd ["self","top","bottom","power"] (D1z CR):=by
 refine F.okE Y4n (fun vs H Q E h=>?_) (fun X cdv A outer s H vs Q E hX hr hx h=>?_)
 . obtain⟨p,dx,a,b,c,rfl,_⟩:=h
   rfl
 . subst hX
   obtain⟨p,dx,a,b,c,rfl,hp,k⟩:=h
   refine⟨_,(A4 (Y0 (pv 0) (pv 1) rfl)
     (A4 (Y0 (pv 0) (pv 2) rfl)
     (A6 (Y0 (pv 0) (pv 3) rfl)))),?_⟩
   have l:∀(fs:List (Str×V)) (f:Str) (v:V) (n:Nat),fs.length<=n ->(U1 f v fs).length<=n+1:=fun fs f v n h=>Nat.le_trans (Y9 f v fs) (Nat.succ_le_succ h)
   refine⟨_,rfl,_,rfl,p,CR,dx,[],rfl,hp,R.cl,R.n_top,(by show 0<1000;decide),?_⟩
   refine⟨_,rfl,_,rfl,p,CR,dx,_,rfl,A8,R.cl,R.n_bottom,Nat.lt_of_le_of_lt (l _ _ _ 0 (Nat.le_refl _)) (by decide),?_⟩
   refine⟨_,rfl,_,rfl,p,CR,dx,_,rfl,A8,R.cl,R.n_power,Nat.lt_of_le_of_lt (l _ _ _ 1 (l _ _ _ 0 (Nat.le_refl _))) (by decide),?_⟩
   refine k _ A8 fun b o e hb=>?_
   rw[C9 hb,C9 hb,C9 hb]
   exact e
noncomputable def A4c (CR:Addr):Sp:=fun vs H Q _=>∃x t b n,vs=[.ref x]/\RatAt CR H x t b n/\Sz t/\Sz b/\∀f H',Same H H' ->A1j t b (n-f) ->Q (.int f) H'
noncomputable def C1f (CR:Addr):Sp:=fun vs H Q _=>∃x t b n p,vs=[.ref x,.int p]/\RatAt CR H x t b n/\Sz t/\Sz b/\ -1500<=n-p/\n-p<=1500/\
 ∀q H',Same H H' ->H q=none ->H' q=some (.tup [.int (whI t b (n-p)),.int (ptI t b (n-p))]) ->Q (.ref q) H'
structure MakeR(P:Program)(w:World)(K:Frag)(mg:Str ->Option Value)(base:Heap)(CR fI:Addr)(fdI:FuncData)(d0:Value)(gP:List Value ->List Value ->List Value)(vP:List V ->List V ->List V):Prop where
 m:Mk K CR fI
 g:FnOk P w K mg base (CX1 P w) 1 fI fdI ["self","top","bottom","power"] (D1z CR)
 b3:Binds K fdI ["self","top","bottom","power"] []
 b2:Binds K fdI ["self","top","bottom","power"] [d0]
 r0:RelV (.int 0) d0
 kP:KBinds K fdI ["self","top","bottom","power"] ["power"] gP vP
 eP:∀x a b c,vP [x,a,b] [c]=[x,a,b,c]
structure RatM(P:Program)(w:World)(K:Frag)(mg:Str ->Option Value)(base:Heap)(CR f1 f2:Addr)(fd1 fd2:FuncData):Prop where
 m1:Meth K CR "first" f1
 g1:FnOk P w K mg base (CX1 P w) 4 f1 fd1 ["self"] (A4c CR)
 b1:Binds K fd1 ["self"] []
 m2:Meth K CR "at" f2
 g2:FnOk P w K mg base (CX1 P w) 3 f2 fd2 ["self","power"] (C1f CR)
 b2:Binds K fd2 ["self","power"] []
theorem Y8r{CR x dx:Addr}{H:Hp}{Q:VK}{E:XK}{t b n:Int}(n1:H x=none)(n2:H dx=none)(ne:dx≠x)(k:∀H',Same H H' ->RatAt CR H' x t b n ->Q .non H'):
   D1z CR [.ref x,.int t,.int b,.int n] (upd (upd H dx (.own x)) x (.ins CR dx [])) Q E:=
 ⟨x,dx,_,_,_,rfl,A8,fun H' e s=>k H' (fun c o z=>s c o (by rw[C9 (D0 z n1),C9 (D0 z n2)];exact z) (D0 z n1)) ⟨dx,e⟩⟩
end
noncomputable abbrev A3e:Stmt:=(top 8)
section
variable{P:Program}{w:World}{K:Frag}{mg:Str ->Option Value}{base:Heap}
noncomputable def C0v:Sp:=fun vs H Q _=>∃l m:Int,vs=[.int (2*l),.int m]/\0<=l/\0<m/\Q (.int (Y5 l m)) H
theorem U6r:FnScope ["size","middle"] ["size","middle"] (A2 A3e):=scK
theorem Y6m{m:Int}(hm:0<m):Y5 0 m=0:=by
 unfold Y5
 rw[decide_eq_false (by omega:¬(0:Int)<0),decide_eq_false (by omega:¬m<=2*0),decide_eq_false (by omega:¬m<2*0)]
 rfl
theorem Y5t{l m:Int}(hl:0<l)(h:2*l<m):Y5 l m=1:=by
 unfold Y5
 rw[decide_eq_true hl,decide_eq_false (by omega:¬m<=2*l),decide_eq_false (by omega:¬m<2*l)]
 rfl
theorem Y6h{l m:Int}(hl:0<l)(h:2*l=m):Y5 l m=2:=by
 unfold Y5
 rw[decide_eq_true hl,decide_eq_true (by omega:m<=2*l),decide_eq_false (by omega:¬m<2*l)]
 rfl
theorem Y5b{l m:Int}(hl:0<l)(h:m<2*l):Y5 l m=3:=by
 unfold Y5
 rw[decide_eq_true hl,decide_eq_true (by omega:m<=2*l),decide_eq_true h]
 rfl
theorem J9y(D:Def K mg "part_of" ["size","middle"] A3e f fd):FnOk P w K mg base (CX1 P w) 1 f fd ["size","middle"] C0v:=by
 refine FnOk.up (D.F.ok U6r (fun vs H Q E h=>?_) (fun cdv A outer s H vs Q E hr h=>?_))
 . obtain⟨l,m,rfl,_⟩:=h
   rfl
 . obtain ⟨l,m,rfl,hl,hm,k⟩:=h
   refine⟨_,(A4 (G6 (C4 G4 (pv 0) A3 (B5 _)) (A6 (B3 A3)) C6)
     (A4 (G6 (C4 B9k (pv 0) (pv 1) (B5 _)) (A6 (B3 A3)) C6)
     (A6 (B3 (A4d (C4 G4 (pv 0) (pv 1) (B5 _)) A3 A3))))),?_⟩
   refine⟨_,rfl,rfl,_,rfl,V0 (fun h0=>?_) (fun h0=>?_)⟩
   . have e:l=0:=by
       have:2*l=0:=by injection h0
       omega
     subst e
     rw[Y6m hm] at k
     exact k
   . have hl':0<l:=by
       apply Classical.byContradiction
       intro z
       exact h0 (by rw[show l=0 by omega];rfl)
     refine⟨_,rfl,_,rfl,_,_,rfl,rfl,_,rfl,V0 (fun h1=>?_) (fun h1=>?_)⟩
     . rw[Y5t hl' h1] at k
       exact k
     . refine⟨_,rfl,_,rfl,rfl,_,rfl,V0 (fun h2=>?_) (fun h2=>?_)⟩
       . rw[Y6h hl' (by injection h2)] at k
         exact k
       . rw[Y5b hl' (by
           have:2*l≠m:=fun z=>h2 (by rw[z])
           omega)] at k
         exact k
end
noncomputable abbrev A3v:Stmt:=(top 9)
theorem G7v(k:Nat):10^(k*301029995/10^9)<=2^k:=by
 have hm:k*301029995/10^9*28738<=k*8651:=by
   have:k*301029995/10^9*10^9<=k*301029995:=Nat.div_mul_le_self _ _
   omega
 generalize k*301029995/10^9=m at hm
 have c:(10:Nat)^8651<=2^28738:=by decide+kernel
 have a:(10^m)^8651<=(2^k)^8651:=by
   calc (10^m)^8651=(10^8651)^m:=by rw[<-Nat.pow_mul, <-Nat.pow_mul,Nat.mul_comm]
     _<=(2^28738)^m:=Nat.pow_le_pow_left c m
     _=2^(m*28738):=by rw[<-Nat.pow_mul,Nat.mul_comm]
     _<=2^(k*8651):=Nat.pow_le_pow_right (by decide) hm
     _=(2^k)^8651:=by rw[<-Nat.pow_mul]
 exact(Nat.pow_le_pow_iff_left (by decide)).mp a
section
variable{P:Program}{w:World}{K:Frag}{mg:Str ->Option Value}{base:Heap}
noncomputable def B9z:Sp:=fun vs H Q _=>∃n:Nat,vs=[.int (n:Int)]/\1<=n/\n<10^3000/\∀L:Nat,10^L<=n ->n<10^(L+1) ->Q (.int (L:Int)) H
theorem scWLead:FnScope ["whole","lead","beyond"] ["whole"] (A2 A3v):=scK
theorem U7y(D:Def K mg "whole_lead" ["whole"] A3v f fd)(dA:Def K mg "ten_to" ["count"] A0d f1 fd1)(dB:FnOk P w K mg base (CX1 P w) 2 f1 fd1 ["count"] A5a):FnOk P w K mg base (CX1 P w) 3 f fd ["whole"] B9z:=by
 refine FnOk.up (D.F.ok scWLead (fun vs H Q E h=>?_) (fun cdv A outer s H vs Q E hr h=>?_))
 . obtain⟨n,rfl,_⟩:=h
   rfl
 . obtain ⟨n,rfl,n1,n2,k⟩:=h
   have hx:G5 (A0a CX0 P w K mg base ["whole","lead","beyond"] "whole_lead" (A2 A3v) f cdv A outer s H E).nox EKF:=U2
   refine⟨_,(A4 (B7 (C5 (i:=1) scWLead.nd rfl (Or.inl rfl) (A7 D5 (A7 D6 (A7 G9 (Z1b PySem.F.plainAttrs_int PySem.F.slot_int_bit_length PySem.F.type_int_bit_length C6k (pv 0)) A3) A3) (A7 U9z A3 A3))))
     (A4 (B7 (C5 (i:=2) scWLead.nd rfl (Or.inl rfl) (C8 dA dB hr hx (A0 (A7 D9 (pv 1) A3) A5))))
     (A4 (B7 (A2d PassesOwn.never (C4 J6v (pv 2) (pv 0) (B5 _)) (A4 (D2m (i:=1) scWLead.nd rfl (Or.inl rfl) A3 G7a)
     (A6 (C5 (i:=2) scWLead.nd rfl (Or.inl rfl) (A7 D6 (pv 2) A3))))))
     (A6 (B3 (pv 1)))))),?_⟩
   have mC:∀z n:Int, -(2^64)<n ->n<2^64 ->IntMulOk z n:=fun z n a b=>CMul.ok (.inr ⟨a,b⟩)
   have pw:Z6g 10 9:=⟨by decide,by decide,by decide⟩
   have l3:∀{L:Nat},10^L<=n ->L<3000:=fun hL=>(Nat.pow_lt_pow_iff_right (by decide:1<10)).mp (Nat.lt_of_le_of_lt hL n2)
   refine⟨fun σ H'=>H'=H/\∃L:Nat,10^L<=n/\σ=[some (.int (n:Int)),some (.int (L:Int)),none],?_,?_⟩
   . refine⟨_,rfl,rfl,_,rfl,rfl,_,_,rfl,rfl,_,_,rfl,rfl,mC _ _ (by decide) (by decide),_,_,rfl,rfl,pw,_,_,rfl,rfl,⟨by decide,by decide+kernel⟩,rfl,n.log2*301029995/10^9,?_,?_⟩
     . exact Nat.le_trans (G7v _) (Nat.log2_self_le (by omega))
     . have e:(Builtin.Int.intBits (n:Int):Nat)=n.log2+1:=by
         unfold Builtin.Int.intBits
         rw[if_neg (by simp;omega)]
         rfl
       show [some (V.int (n:Int)),some (V.int ((((Builtin.Int.intBits (n:Int):Nat):Int)-1)*301029995/(10^Int.toNat 9:Int))),none]=_
       rw[e,show((n.log2+1:Nat):Int)-1=(n.log2:Int) by omega]
       rfl
   rintro σ H' ⟨rfl,L0,hL0,rfl⟩
   refine⟨fun σ H2=>H2=H'/\∃L:Nat,10^L<=n/\σ=[some (.int (n:Int)),some (.int (L:Int)),some (.int ((10^(L+1):Nat):Int))],?_,?_⟩
   . have:=l3 hL0
     exact⟨_,rfl,_,_,rfl,rfl,L0+1,rfl,by omega,rfl,L0,hL0,rfl⟩
   rintro σ H2 ⟨rfl,L1,hL1,rfl⟩
   refine⟨fun σ H3=>H3=H2/\∃L:Nat,10^L<=n/\n<10^(L+1)/\σ=[some (.int (n:Int)),some (.int (L:Int)),some (.int ((10^(L+1):Nat):Int))],?_,?_⟩
   . refine A2q (fun σ H3=>H3=H2/\∃L:Nat,10^L<=n/\σ=[some (.int (n:Int)),some (.int (L:Int)),some (.int ((10^(L+1):Nat):Int))]) (fun σ _=>match σ with| [_,some (.int c),_]=>n-c.toNat|_=>0) ?_ ?_ ?_
     . exact⟨rfl,L1,hL1,rfl⟩
     . rintro σ H3 ⟨rfl,L,hL,rfl⟩
       refine⟨_,rfl,_,rfl,_,_,rfl,rfl,_,rfl,V0 (fun hle=>?_) (fun hgt=>?_)⟩
       . have hle:10^(L+1)<=n:=Int.ofNat_le.mp hle
         refine⟨_,rfl,_,_,rfl,rfl,_,rfl,_,_,rfl,rfl,mC _ _ (by decide) (by decide),⟨rfl,L+1,hle,?_⟩,?_⟩
         . show [some (V.int (n:Int)),some (V.int ((L:Int)+1)),some (V.int (((10^(L+1):Nat):Int)*10))]=_
           rw[show((10^(L+1):Nat):Int)*10=((10^(L+1+1):Nat):Int) by rw[Nat.pow_succ 10 (L+1)];rfl]
           rfl
         have lt:L+1<10^(L+1):=Nat.lt_pow_self (by decide)
         show n-((L:Int)+1).toNat<n-(L:Int).toNat
         omega
       . have hgt:¬10^(L+1)<=n:=fun z=>hgt (Int.ofNat_le.mpr z)
         exact⟨rfl,L,hL,by omega,rfl⟩
     . rintro σ H2 Q1 Q2 hQ ⟨v,e,v2,e4,i2,j2,e5,e6,b,e7,q⟩
       exact⟨v,e,v2,e4,i2,j2,e5,e6,b,e7,hQ _ _ q⟩
   rintro σ H3 ⟨rfl,L,h1,h2,rfl⟩
   exact⟨_,rfl,k L h1 h2⟩
end
noncomputable abbrev C0w:Stmt:=(D7 (top 6) 2)
noncomputable abbrev A2n:Stmt:=(D7 (top 6) 1)
section
variable{P:Program}{w:World}{K:Frag}{mg:Str ->Option Value}{base:Heap}
theorem scRAt:FnScope ["self","power","shift","top","bottom","whole"] ["self","power"] (A2 C0w):=scK
theorem Z1s{f f1 f2 CR CE:Addr}(F:Fun K "at" "Ratio.at" C0w f fd)(dA:Def K mg "ten_to" ["count"] A0d f1 fd1)(dB:FnOk P w K mg base (CX1 P w) 2 f1 fd1 ["count"] A5a)
   (dC:Def K mg "part_of" ["size","middle"] A3e f2 fd2) (dD:FnOk P w K mg base (CX1 P w) 1 f2 fd2 ["size","middle"] C0v) (R:RatC K mg CR CE) (O:Own mg):FnOk P w K mg base (CX1 P w) 3 f fd ["self","power"] (C1f CR):=by
 refine FnOk.up (F.ok scRAt (fun vs H Q E h=>?_) (fun cdv A outer s H vs Q E hr h=>?_))
 . obtain⟨x,t,b,n,p,rfl,_⟩:=h
   rfl
 . obtain⟨x,t,b,n,p,rfl,⟨dx,e⟩,ht,hb,h1,h2,k⟩:=h
   have hx:G5 (A0a CX0 P w K mg base ["self","power","shift","top","bottom","whole"] "Ratio.at" (A2 C0w) f cdv A outer s H E).nox EKF:=U2
   refine⟨_,(A4 (C5 (i:=2) scRAt.nd rfl (Or.inl rfl) (A7 G9 (G3 (pv 0) rfl) (pv 1)))
     (A4 (C5 (i:=3) scRAt.nd rfl (Or.inl rfl) (A7 D6 (G3 (pv 0) rfl) (C8 dA dB hr hx (A0 (J2 (V1 rfl) (by rfl) O.max_ boot_max (A0 (pv 2) (A0 A3 A5))) A5))))
     (A4 (C5 (i:=4) scRAt.nd rfl (Or.inl rfl) (A7 D6 (G3 (pv 0) rfl) (C8 dA dB hr hx (A0 (J2 (V1 rfl) (by rfl) O.max_ boot_max (A0 (D0u B5s (pv 2)) (A0 A3 A5))) A5))))
     (A4 (C5 (i:=5) scRAt.nd rfl (Or.inl rfl) (A7 D5 (pv 3) (pv 4)))
     (A6 (B3 (Y1 (A0 (pv 5) (A0 (C8 dC dD hr hx (A0 (A7 D6 A3 (A7 G9 (pv 3) (A7 D6 (pv 5) (pv 4)))) (A0 (pv 4) A5))) A5))))))))),?_⟩
   have z2:2<=sizeLine:=C7 (by decide)
   have mC':∀z n:Int, -(2^64)<n ->n<2^64 ->IntMulOk n z:=fun z n a b=>CMul.ok (.inl ⟨a,b⟩)
   have hb0:0<b:=by have:=hb.1;omega
   refine⟨_,rfl,x,CR,dx,_,_,rfl,e,R.cl,R.n_power,D0r _ _ _,_,rfl,_,_,rfl,rfl,?_⟩
   refine⟨_,rfl,x,CR,dx,_,_,rfl,e,R.cl,R.n_top,J6z _ _ _,_,rfl,_,_,rfl,(n-p).toNat,congrArg (fun z=>[V.int z]) (U8u (n-p)),by omega,_,_,rfl,rfl,U7j ht h2,?_⟩
   refine⟨_,rfl,x,CR,dx,_,_,rfl,e,R.cl,R.n_bottom,C1p _ _ _,_,rfl,_,rfl,_,_,rfl,(-(n-p)).toNat,congrArg (fun z=>[V.int z]) (U8u (-(n-p))),by omega,_,_,rfl,rfl,U7j hb (by omega),?_⟩
   have lp:0<b*A1 (-(n-p)):=Int.mul_pos hb0 (B8 _)
   have ll:(b*A1 (-(n-p))).natAbs.log2<9000:=Z0h hb (by omega)
   refine⟨_,rfl,_,rfl,_,_,rfl,rfl,⟨lp,ll⟩,?_⟩
   have lf:=J6f (t:=t) (s:=n-p) hb0
   refine⟨_,rfl,_,rfl,_,rfl,_,rfl,_,_,rfl,rfl,Z6y ht hb h1 h2,_,_,rfl,rfl,_,_,rfl,rfl,mC' _ _ (by decide) (by decide),_,rfl,_,_,rfl,lf.1,lp,z2,fun q nq=>k q _ (Same.upd nq) nq A8⟩
end
theorem Z0p{t b L M u v:Nat}(h:L+u=M+v)(t2:t<10^(L+1))(b1:10^M<=b):t*10^u<10*(b*10^v):=by
 have p:0<10^u:=Nat.pow_pos (by decide)
 calc t*10^u<10^(L+1)*10^u:=Nat.mul_lt_mul_of_pos_right t2 p
   _=10*(10^M*10^v):=by rw[<-Nat.pow_add, <-Nat.pow_add, <-h,show L+1+u=(L+u)+1 by omega,Nat.pow_succ,Nat.mul_comm]
   _<=10*(b*10^v):=Nat.mul_le_mul_left 10 (Nat.mul_le_mul_right _ b1)
theorem Z1q{t b L M u v:Nat}(h:L+u=M+1+v)(t1:10^L<=t)(b2:b<10^(M+1)):b*10^v<=t*10^u:=by
 calc b*10^v<=10^(M+1)*10^v:=Nat.mul_le_mul_right _ (Nat.le_of_lt b2)
   _=10^L*10^u:=by rw[<-Nat.pow_add, <-Nat.pow_add,h]
   _<=t*10^u:=Nat.mul_le_mul_right _ t1
theorem D0q{t b L M:Nat}(t1:10^L<=t)(t2:t<10^(L+1))(b1:10^M<=b)(b2:b<10^(M+1))(h:(b:Int)*A1 (-((M:Int)-L))<=(t:Int)*A1 ((M:Int)-L)):A1j t b ((M:Int)-L):=by
 refine⟨h,?_⟩
 unfold A1
 have:=Z0p (t:=t) (b:=b) (L:=L) (M:=M) (u:=((M:Int)-L).toNat) (v:=(-((M:Int)-L)).toNat) (by omega) t2 b1
 exact Int.ofNat_lt.mpr this
theorem C1c{t b L M:Nat}(t1:10^L<=t)(t2:t<10^(L+1))(b1:10^M<=b)(b2:b<10^(M+1))(h:(t:Int)*A1 ((M:Int)-L)<(b:Int)*A1 (-((M:Int)-L))):A1j t b ((M:Int)-L+1):=by
 refine⟨?_,?_⟩
 . unfold A1
   have:=Z1q (t:=t) (b:=b) (L:=L) (M:=M) (u:=((M:Int)-L+1).toNat) (v:=(-((M:Int)-L+1)).toNat) (by omega) t1 b2
   exact Int.ofNat_le.mpr this
 . have hb:0<(b:Int):=by
     have:0<10^M:=Nat.pow_pos (by decide)
     omega
   generalize (M:Int)-L=s at h
   have c:=A0f (s:=s) (r:=s+1) (by omega)
   have e1:A1 (s+1-s)=10:=by rw[show s+1-s=1 by omega];rfl
   rw[e1] at c
   have l:=Int.mul_pos hb (B8 (-s))
   have l':=Int.mul_pos hb (B8 (-(s+1)))
   have e:(t:Int)*A1 (s+1)*((b:Int)*A1 (-s))=(t:Int)*A1 s*((b:Int)*A1 (-(s+1)))*10:=by
     calc (t:Int)*A1 (s+1)*((b:Int)*A1 (-s))=t*b*(A1 (s+1)*A1 (-s)):=by ac_rfl
       _=t*b*(A1 s*A1 (-(s+1))*10):=by rw[c]
       _=(t:Int)*A1 s*((b:Int)*A1 (-(s+1)))*10:=by ac_rfl
   have a:(t:Int)*A1 s*((b:Int)*A1 (-(s+1)))<(b:Int)*A1 (-s)*((b:Int)*A1 (-(s+1))):=Int.mul_lt_mul_of_pos_right h l'
   have a2:(t:Int)*A1 (s+1)*((b:Int)*A1 (-s))<10*((b:Int)*A1 (-(s+1)))*((b:Int)*A1 (-s)):=by
     rw[e,show 10*((b:Int)*A1 (-(s+1)))*((b:Int)*A1 (-s))=(b:Int)*A1 (-s)*((b:Int)*A1 (-(s+1)))*10 by ac_rfl]
     exact Int.mul_lt_mul_of_pos_right a (by decide)
   exact Int.lt_of_mul_lt_mul_right a2 (Int.le_of_lt l)
section
variable{P:Program}{w:World}{K:Frag}{mg:Str ->Option Value}{base:Heap}
theorem scRFirst:FnScope ["self","guess"] ["self"] (A2 A2n):=scK
theorem J9f{f f1 f2 CR CE:Addr}(F:Fun K "first" "Ratio.first" A2n f fd)(dA:Def K mg "whole_lead" ["whole"] A3v f1 fd1)(dB:FnOk P w K mg base (CX1 P w) 3 f1 fd1 ["whole"] B9z)
   (MA:Meth K CR "at" f2) (GA:FnOk P w K mg base (CX1 P w) 3 f2 fd2 ["self","power"] (C1f CR)) (BA:Binds K fd2 ["self","power"] []) (R:RatC K mg CR CE):FnOk P w K mg base (CX1 P w) 4 f fd ["self"] (A4c CR):=by
 refine FnOk.up (F.ok scRFirst (fun vs H Q E h=>?_) (fun cdv A outer s H vs Q E hr h=>?_))
 . obtain⟨x,t,b,n,rfl,_⟩:=h
   rfl
 . obtain⟨x,t,b,n,rfl,ra,ht,hb,k⟩:=h
   have hx:G5 (A0a CX0 P w K mg base ["self","guess"] "Ratio.first" (A2 A2n) f cdv A outer s H E).nox EKF:=U2
   refine⟨_,(A4 (C5 (i:=1) scRFirst.nd rfl (Or.inl rfl) (A7 D9 (A7 G9 (C8 dA dB hr hx (A0 (G3 (pv 0) rfl) A5)) (C8 dA dB hr hx (A0 (G3 (pv 0) rfl) A5))) (G3 (pv 0) rfl)))
     (A6 (B3 (A4d (C4 B2e (G7 G2 (D0c (pv 0) R.cl MA GA hr BA .nil hx (A0 (pv 1) A5)) A3 (fun _ _=>rfl)) A3 (B5 _)) (pv 1) (A7 G9 (pv 1) A3))))),?_⟩
   obtain⟨tn,rfl,ta,tb⟩:=ht.nat
   obtain⟨bn,rfl,ba,bb⟩:=hb.nat
   obtain⟨dx,e⟩:=id ra
   have p30:(10:Nat)^1000<10^3000:=Nat.pow_lt_pow_right (by decide) (by decide)
   have p30':∀{L m:Nat},10^L<=m ->m<10^1000 ->L<1000:=fun h1 h2=>(Nat.pow_lt_pow_iff_right (by decide:1<10)).mp (Nat.lt_of_le_of_lt h1 h2)
   refine⟨_,rfl,x,CR,dx,_,_,rfl,e,R.cl,R.n_top,J6z _ _ _,tn,rfl,ta,Nat.lt_trans tb p30,fun L L1 L2=>?_⟩
   refine⟨_,rfl,x,CR,dx,_,_,rfl,e,R.cl,R.n_bottom,C1p _ _ _,bn,rfl,ba,Nat.lt_trans bb p30,fun M' M1 M2=>?_⟩
   have l30:=p30' L1 tb
   have m30:=p30' M1 bb
   refine⟨_,_,rfl,rfl,_,rfl,x,CR,dx,_,_,rfl,e,R.cl,R.n_power,D0r _ _ _,_,_,rfl,rfl,?_⟩
   have es:n-((L:Int)-M'+n)=(M':Int)-L:=by omega
   refine⟨_,rfl,x,dx,_,rfl,e,D0p _ _ _,_,rfl,x,tn,bn,n,_,rfl,ra,ht,hb,by omega,by omega,fun q H1 s1 nq hq=>?_⟩
   rw[es] at hq
   refine⟨q,_,0,_,rfl,rfl,SqT.of hq,C0 (j:=0) rfl,_,_,rfl,rfl,_,rfl,?_⟩
   have lp:0<(bn:Int)*A1 (-((M':Int)-L)):=Int.mul_pos (by omega) (B8 _)
   refine V0 (fun hg=>?_) (fun hg=>?_)
   . have hle:(bn:Int)*A1 (-((M':Int)-L))<=(tn:Int)*A1 ((M':Int)-L):=by
       have:=(Int.le_ediv_iff_mul_le lp).mp (show(1:Int)<=(tn:Int)*A1 ((M':Int)-L)/((bn:Int)*A1 (-((M':Int)-L))) from hg)
       omega
     refine⟨_,rfl,k _ H1 s1 ?_⟩
     rw[es]
     exact D0q L1 L2 M1 M2 hle
   . have hlt:(tn:Int)*A1 ((M':Int)-L)<(bn:Int)*A1 (-((M':Int)-L)):=by
       apply Classical.byContradiction
       intro z
       exact hg ((Int.le_ediv_iff_mul_le lp).mpr (by omega))
     refine⟨_,rfl,_,_,rfl,rfl,k _ H1 s1 ?_⟩
     rw[show n-((L:Int)-M'+n-1)=(M':Int)-L+1 by omega]
     exact C1c L1 L2 M1 M2 hlt
end
inductive Wy where
 |down
 |up
 |floor
 |ceiling
 |halfUp
 |halfDown
 |halfEven
 |fiveUp
noncomputable def Wy.name:Wy ->Str
 | .down=>"down"
 | .up=>"up"
 | .floor=>"floor"
 | .ceiling=>"ceiling"
 | .halfUp=>"half up"
 | .halfDown=>"half down"
 | .halfEven=>"half even"
 | .fiveUp=>"five up"
noncomputable def Wy.cls:Wy ->Str
 | .down=>"Down"
 | .up=>"Up"
 | .floor=>"Floor"
 | .ceiling=>"Ceiling"
 | .halfUp=>"HalfUp"
 | .halfDown=>"HalfDown"
 | .halfEven=>"HalfEven"
 | .fiveUp=>"FiveUp"
theorem Wy.inj{a b:Wy}(h:a.name=b.name):a=b:=by
 cases a<;>cases b<;>first|rfl|exact absurd h (by decide+kernel)
structure WayC(K:Frag)(mg:Str ->Option Value)(x:Str)(C CW:Addr):Prop where
 g:mg x=some (.ref C)
 cl:Cls K C
 mk0:Mk0 K C
 ca:findIn K (.ref C) "__class__"=some (some (.builtin "object.__class__"))
 sn:specialIn K (.builtin "object.__class__") "__get__"=some (some (.builtin "getset_descriptor.__get__"))
 tk:takesIn K (.builtin "object.__class__")=some true
 ob:mroIn K C (.type "object")=some true
 up:kitOne K (.ref C) (.ref CW)=some true
section
variable{P:Program}{w:World}{K:Frag}{mg:Str ->Option Value}{base:Heap}
noncomputable def A4w (s:Str):Sp:=fun vs H Q _=>∃p,vs=[.ref p]/\Q (.str s) H
noncomputable def Z6s (P:Program) (w:World) (K:Frag) (mg:Str ->Option Value) (base:Heap) (C:Addr) (s:Str):Prop:=Has P w K mg base C "name" 1 ["self"] (A4w s)
noncomputable abbrev sN0:Stmt:=(D7 (top 39) 0)
theorem scN0:FnScope ["self"] ["self"] (A2 sN0):=scK
theorem Z5r(F:Fun K "name" "Down.name" sN0 f fd):FnOk P w K mg base (CX1 P w) 1 f fd ["self"] (A4w "down"):=by
 refine FnOk.up (F.ok scN0 (fun vs H Q E h=>?_) (fun cdv A outer s H vs Q E hr h=>?_))
 . obtain⟨p,rfl,_⟩:=h
   rfl
 . obtain⟨p,rfl,k⟩:=h
   exact⟨_,A6 (B3 B9),k⟩
noncomputable abbrev sN1:Stmt:=(D7 (top 40) 0)
theorem Z9z:FnScope ["self"] ["self"] (A2 sN1):=scK
theorem Z5h(F:Fun K "name" "Up.name" sN1 f fd):FnOk P w K mg base (CX1 P w) 1 f fd ["self"] (A4w "up"):=by
 refine FnOk.up (F.ok Z9z (fun vs H Q E h=>?_) (fun cdv A outer s H vs Q E hr h=>?_))
 . obtain⟨p,rfl,_⟩:=h
   rfl
 . obtain⟨p,rfl,k⟩:=h
   exact⟨_,A6 (B3 B9),k⟩
noncomputable abbrev sN2:Stmt:=(D7 (top 41) 0)
theorem scN2:FnScope ["self"] ["self"] (A2 sN2):=scK
theorem Z7k(F:Fun K "name" "Floor.name" sN2 f fd):FnOk P w K mg base (CX1 P w) 1 f fd ["self"] (A4w "floor"):=by
 refine FnOk.up (F.ok scN2 (fun vs H Q E h=>?_) (fun cdv A outer s H vs Q E hr h=>?_))
 . obtain⟨p,rfl,_⟩:=h
   rfl
 . obtain⟨p,rfl,k⟩:=h
   exact⟨_,A6 (B3 B9),k⟩
noncomputable abbrev sN3:Stmt:=(D7 (top 42) 0)
theorem scN3:FnScope ["self"] ["self"] (A2 sN3):=scK
theorem Z6q(F:Fun K "name" "Ceiling.name" sN3 f fd):FnOk P w K mg base (CX1 P w) 1 f fd ["self"] (A4w "ceiling"):=by
 refine FnOk.up (F.ok scN3 (fun vs H Q E h=>?_) (fun cdv A outer s H vs Q E hr h=>?_))
 . obtain⟨p,rfl,_⟩:=h
   rfl
 . obtain⟨p,rfl,k⟩:=h
   exact⟨_,A6 (B3 B9),k⟩
noncomputable abbrev sN4:Stmt:=(D7 (top 43) 0)
theorem scN4:FnScope ["self"] ["self"] (A2 sN4):=scK
theorem Z4s(F:Fun K "name" "HalfUp.name" sN4 f fd):FnOk P w K mg base (CX1 P w) 1 f fd ["self"] (A4w "half up"):=by
 refine FnOk.up (F.ok scN4 (fun vs H Q E h=>?_) (fun cdv A outer s H vs Q E hr h=>?_))
 . obtain⟨p,rfl,_⟩:=h
   rfl
 . obtain⟨p,rfl,k⟩:=h
   exact⟨_,A6 (B3 B9),k⟩
noncomputable abbrev sN5:Stmt:=(D7 (top 44) 0)
theorem Z9q:FnScope ["self"] ["self"] (A2 sN5):=scK
theorem Z5s(F:Fun K "name" "HalfDown.name" sN5 f fd):FnOk P w K mg base (CX1 P w) 1 f fd ["self"] (A4w "half down"):=by
 refine FnOk.up (F.ok Z9q (fun vs H Q E h=>?_) (fun cdv A outer s H vs Q E hr h=>?_))
 . obtain⟨p,rfl,_⟩:=h
   rfl
 . obtain⟨p,rfl,k⟩:=h
   exact⟨_,A6 (B3 B9),k⟩
noncomputable abbrev sN6:Stmt:=(D7 (top 45) 0)
theorem scN6:FnScope ["self"] ["self"] (A2 sN6):=scK
theorem Z5d(F:Fun K "name" "HalfEven.name" sN6 f fd):FnOk P w K mg base (CX1 P w) 1 f fd ["self"] (A4w "half even"):=by
 refine FnOk.up (F.ok scN6 (fun vs H Q E h=>?_) (fun cdv A outer s H vs Q E hr h=>?_))
 . obtain⟨p,rfl,_⟩:=h
   rfl
 . obtain⟨p,rfl,k⟩:=h
   exact⟨_,A6 (B3 B9),k⟩
noncomputable abbrev sN7:Stmt:=(D7 (top 46) 0)
theorem scN7:FnScope ["self"] ["self"] (A2 sN7):=scK
theorem Z5a(F:Fun K "name" "FiveUp.name" sN7 f fd):FnOk P w K mg base (CX1 P w) 1 f fd ["self"] (A4w "five up"):=by
 refine FnOk.up (F.ok scN7 (fun vs H Q E h=>?_) (fun cdv A outer s H vs Q E hr h=>?_))
 . obtain⟨p,rfl,_⟩:=h
   rfl
 . obtain⟨p,rfl,k⟩:=h
   exact⟨_,A6 (B3 B9),k⟩
noncomputable def Y8u (K:Frag) (H:Hp) (v:V):Prop:=∃t b,TyE K H v t/\kitOne K t (.type "str")=some b/\(b=false\/∃z,v= .str z/\∀y:Wy,z≠y.name)
theorem A8j{C:Addr}{σ:L2.St}{H:Hp}{Q:VK}(k:∀p dx H',H p=none ->Same H H' ->H' p=some (.ins C dx []) ->Q (.ref p) H'):Y9f C σ H Q:=fun x dx n1 n2 ne=>
 k x dx _ n1 ((Same.upd n2).trans (Same.upd (by rw[C9 (Ne.symm ne)];exact n1))) A8
noncomputable abbrev A8c:Stmt:=(top 47)
noncomputable def D2v (K:Frag) (CB:Addr) (cw:Wy ->Addr):Sp:=fun vs H Q E=>∃v,vs=[v]/\((∃y:Wy,v= .str y.name/\∀p dx H',H p=none ->Same H H' ->H' p=some (.ins (cw y) dx []) ->Q (.ref p) H')\/(Y8u K H v/\E (.ref CB) none H))
theorem Y4d:FnScope ["name"] ["name"] (A2 A8c):=scK
theorem U6k{f CB CW:Addr}{cw:Wy ->Addr}(D:Def K mg "way_of" ["name"] A8c f fd)(O:Own mg)(T:Kit K)(B:Err K mg "BadContext" CB)(W:∀y:Wy,WayC K mg y.cls (cw y) CW):
   FnOk P w K mg base (CX1 P w) 1 f fd ["name"] (D2v K CB cw):=by
 refine D.F.okE Y4d (fun vs H Q E h=>?_) (fun X cdv A outer s H vs Q E hX hr hx h=>?_)
 . obtain⟨v,rfl,_⟩:=h
   rfl
 . subst hX
   obtain⟨v,rfl,h⟩:=h
   refine⟨_,(A4 (G6 (A2b (V3 (U0p O.isi (pv 0) (pty O.str_ boot_str)))) (A6 (A2c (by rfl) B.g B.q PySem.F.excBase_ValueError hr.hd hx (A0 B9 A5))) C6)
     (A4 (G6 (C4 G4 (pv 0) B9 (B5 _)) (A6 (B3 (A8h (W .down).mk0 rfl (W .down).g))) C6)
     (A4 (G6 (C4 G4 (pv 0) B9 (B5 _)) (A6 (B3 (A8h (W .up).mk0 rfl (W .up).g))) C6)
     (A4 (G6 (C4 G4 (pv 0) B9 (B5 _)) (A6 (B3 (A8h (W .floor).mk0 rfl (W .floor).g))) C6)
     (A4 (G6 (C4 G4 (pv 0) B9 (B5 _)) (A6 (B3 (A8h (W .ceiling).mk0 rfl (W .ceiling).g))) C6)
     (A4 (G6 (C4 G4 (pv 0) B9 (B5 _)) (A6 (B3 (A8h (W .halfUp).mk0 rfl (W .halfUp).g))) C6)
     (A4 (G6 (C4 G4 (pv 0) B9 (B5 _)) (A6 (B3 (A8h (W .halfDown).mk0 rfl (W .halfDown).g))) C6)
     (A4 (G6 (C4 G4 (pv 0) B9 (B5 _)) (A6 (B3 (A8h (W .halfEven).mk0 rfl (W .halfEven).g))) C6)
     (A4 (G6 (C4 G4 (pv 0) B9 (B5 _)) (A6 (B3 (A8h (W .fiveUp).mk0 rfl (W .fiveUp).g))) C6)
     (A6 (A2c (by rfl) B.g B.q PySem.F.excBase_ValueError hr.hd hx (A0 B9 A5)))))))))))),?_⟩
   have z1:1<=sizeLine:=C7 (by decide)
   rcases h with⟨y,rfl,k⟩|⟨⟨t,b,ty,kk,bad⟩,k⟩
   . refine⟨_,rfl,_,_,_,_,true,rfl,rfl,U8g _,T.str_str,_,rfl,J4 ?_⟩
     refine⟨_,rfl,rfl,_,rfl,V0 (fun e=>?_) (fun n0=>?_)⟩
     . have q:y= .down:=Wy.inj (V.str.inj (e:V.str y.name=V.str (Wy.name .down)))
       subst q
       exact A8j k
     refine⟨_,rfl,rfl,_,rfl,V0 (fun e=>?_) (fun n1=>?_)⟩
     . have q:y= .up:=Wy.inj (V.str.inj (e:V.str y.name=V.str (Wy.name .up)))
       subst q
       exact A8j k
     refine⟨_,rfl,rfl,_,rfl,V0 (fun e=>?_) (fun n2=>?_)⟩
     . have q:y= .floor:=Wy.inj (V.str.inj (e:V.str y.name=V.str (Wy.name .floor)))
       subst q
       exact A8j k
     refine⟨_,rfl,rfl,_,rfl,V0 (fun e=>?_) (fun n3=>?_)⟩
     . have q:y= .ceiling:=Wy.inj (V.str.inj (e:V.str y.name=V.str (Wy.name .ceiling)))
       subst q
       exact A8j k
     refine⟨_,rfl,rfl,_,rfl,V0 (fun e=>?_) (fun n4=>?_)⟩
     . have q:y= .halfUp:=Wy.inj (V.str.inj (e:V.str y.name=V.str (Wy.name .halfUp)))
       subst q
       exact A8j k
     refine⟨_,rfl,rfl,_,rfl,V0 (fun e=>?_) (fun n5=>?_)⟩
     . have q:y= .halfDown:=Wy.inj (V.str.inj (e:V.str y.name=V.str (Wy.name .halfDown)))
       subst q
       exact A8j k
     refine⟨_,rfl,rfl,_,rfl,V0 (fun e=>?_) (fun n6=>?_)⟩
     . have q:y= .halfEven:=Wy.inj (V.str.inj (e:V.str y.name=V.str (Wy.name .halfEven)))
       subst q
       exact A8j k
     refine⟨_,rfl,rfl,_,rfl,V0 (fun e=>?_) (fun n7=>?_)⟩
     . have q:y= .fiveUp:=Wy.inj (V.str.inj (e:V.str y.name=V.str (Wy.name .fiveUp)))
       subst q
       exact A8j k
     cases y with
     |down=>exact absurd rfl n0
     |up=>exact absurd rfl n1
     |floor=>exact absurd rfl n2
     |ceiling=>exact absurd rfl n3
     |halfUp=>exact absurd rfl n4
     |halfDown=>exact absurd rfl n5
     |halfEven=>exact absurd rfl n6
     |fiveUp=>exact absurd rfl n7
   . refine⟨_,rfl,_,_,_,_,b,rfl,rfl,ty,kk,_,rfl,?_⟩
     cases b with
     |false=>exact V2 ⟨z1,k⟩
     | true=>
       obtain⟨z,rfl,nz⟩:=bad.resolve_left (by decide)
       refine J4 ?_
       refine⟨_,rfl,rfl,_,rfl,V0 (fun e=>absurd (V.str.inj e) (nz .down)) (fun n0=>?_)⟩
       refine⟨_,rfl,rfl,_,rfl,V0 (fun e=>absurd (V.str.inj e) (nz .up)) (fun n1=>?_)⟩
       refine⟨_,rfl,rfl,_,rfl,V0 (fun e=>absurd (V.str.inj e) (nz .floor)) (fun n2=>?_)⟩
       refine⟨_,rfl,rfl,_,rfl,V0 (fun e=>absurd (V.str.inj e) (nz .ceiling)) (fun n3=>?_)⟩
       refine⟨_,rfl,rfl,_,rfl,V0 (fun e=>absurd (V.str.inj e) (nz .halfUp)) (fun n4=>?_)⟩
       refine⟨_,rfl,rfl,_,rfl,V0 (fun e=>absurd (V.str.inj e) (nz .halfDown)) (fun n5=>?_)⟩
       refine⟨_,rfl,rfl,_,rfl,V0 (fun e=>absurd (V.str.inj e) (nz .halfEven)) (fun n6=>?_)⟩
       refine⟨_,rfl,rfl,_,rfl,V0 (fun e=>absurd (V.str.inj e) (nz .fiveUp)) (fun n7=>?_)⟩
       exact⟨z1,k⟩
end
noncomputable def sigS:List Str:=["void","split","burst","sunk","faint","off","cut"]
noncomputable def G7q:List V:=sigS.map V.str
structure SigK(K:Frag)(mg:Str ->Option Value)(aS:Addr):Prop where
 g:mg "SIGNALS"=some (.ref aS)
 ty:∃o,K.lookup aS=some o/\o.cls= .type "tuple"
 sq:∀H,SqT K H aS G7q
noncomputable abbrev B3c:Stmt:=(top 52)
section
variable{P:Program}{w:World}{K:Frag}{mg:Str ->Option Value}{base:Heap}
noncomputable def Z9j (K:Frag) (H:Hp) (x:V):Prop:=∃t b,TyE K H x t/\kitOne K t (.type "str")=some b/\(b=false\/∃z,x= .str z/\z ∉ sigS)
noncomputable def U9y (K:Frag) (H:Hp) (v:V):Prop:=(∃t,TyE K H v t/\kitOne K t (.type "list")=some false)\/(∃(p:Addr) (zs:List Str) (x:V) (r:List V),v= .ref p/\H p=some (.lst (zs.map V.str++x::r))/\(∀z∈zs,z∈sigS)/\Z9j K H x)
noncomputable def J6w (K:Frag) (CB:Addr):Sp:=fun vs H Q E=>∃v,vs=[v]/\((∃(p:Addr) (zs:List Str),v= .ref p/\H p=some (.lst (zs.map V.str))/\(∀z∈zs,z∈sigS)/\Q .non H)\/(U9y K H v/\E (.ref CB) none H))
theorem scNeedS:FnScope ["names","name"] ["names"] (A2 B3c):=scK
theorem U8f{f CB aS:Addr}(D:Def K mg "need_signals" ["names"] B3c f fd)(O:Own mg)(T:Kit K)(B:Err K mg "BadContext" CB)(SG:SigK K mg aS):FnOk P w K mg base (CX1 P w) 1 f fd ["names"] (J6w K CB):=by
 refine D.F.okE scNeedS (fun vs H Q E h=>?_) (fun X cdv A outer s H vs Q E hX hr hx h=>?_)
 . obtain⟨v,rfl,_⟩:=h
   rfl
 . subst hX
   obtain⟨v,rfl,h⟩:=h
   refine⟨_,(A4 (G6 (A2b (V3 (U0p O.isi (pv 0) (pty O.list_ boot_list)))) (A6 (A2c (by rfl) B.g B.q PySem.F.excBase_ValueError hr.hd hx (A0 B9 A5))) C6)
     (A6 (D2s PassesOwn.leaving rfl (J7p (pv 0)) (J5 (i:=1) scNeedS.nd rfl (Or.inl rfl)) (A6 (G6 (PW.pt (B9n (A2b (V3 (U0p O.isi (pv 1) (pty O.str_ boot_str)))) (B5r (C4 B4k (pv 1) (Z0s SG.g) (by rfl))))) (A6 (A2c (by rfl) B.g B.q PySem.F.excBase_ValueError hr.hd hx (A0 B9 A5))) C6))))),?_⟩
   have z1:1<=sizeLine:=C7 (by decide)
   rcases h with⟨p,zs,rfl,hp,hz,k⟩|⟨(⟨t,ty,kk⟩|⟨p,zs,x,r,rfl,hp,hz,t,b,ty,kk,bad⟩),k⟩
   . refine⟨_,rfl,_,_,_,_,true,rfl,rfl,Y8q hp,T.list_list,_,rfl,J4 ?_⟩
     refine⟨_,rfl,p,rfl,⟨_,SqL.of hp⟩,C0m (xs:=zs.map V.str) (fun i σ H'=>H'=H/\∃v,σ=[some (.ref p),v]) ⟨rfl,none,rfl⟩ ?_ ?_ ?_⟩
     . rintro i σ H' _ ⟨rfl,_⟩
       exact SqL.of hp
     . rintro i x σ H' hi ⟨rfl,v,rfl⟩
       obtain⟨z,hzm,rfl⟩:=List.mem_map.mp (List.mem_of_getElem? hi)
       refine⟨_,rfl,_,_,_,_,true,rfl,rfl,U8g _,T.str_str,_,rfl,J4 ?_⟩
       refine⟨_,rfl,aS,G7q,rfl,.inr (SG.sq _),rfl,A1w _,_,rfl,?_⟩
       have e:inV (.str z) G7q=true:=by
         show inV (.str z) (sigS.map V.str)=true
         rw[A4r]
         simpa using hz z hzm
       rw[e]
       exact J4 ⟨rfl,_,rfl⟩
     . rintro σ H' ⟨rfl,v,rfl⟩
       exact k
   . exact⟨_,rfl,_,_,_,_,false,rfl,rfl,ty,kk,_,rfl,V2 ⟨z1,k⟩⟩
   . refine ⟨_,rfl,_,_,_,_,true,rfl,rfl,Y8q hp,T.list_list,_,rfl,J4 ?_⟩
     refine⟨_,rfl,p,rfl,⟨_,SqL.of hp⟩,C0m (xs:=zs.map V.str++x::r) (fun i σ H'=>H'=H/\i<=zs.length/\∃v,σ=[some (.ref p),v]) ⟨rfl,Nat.zero_le _,none,rfl⟩ ?_ ?_ ?_⟩
     . rintro i σ H' _ ⟨rfl,_⟩
       exact SqL.of hp
     . rintro i y σ H' hi ⟨rfl,hl,v,rfl⟩
       by_cases hlt:i<zs.length
       . rw[List.getElem?_append_left (by simpa using hlt)] at hi
         obtain⟨z,hzm,rfl⟩:=List.mem_map.mp (List.mem_of_getElem? hi)
         refine⟨_,rfl,_,_,_,_,true,rfl,rfl,U8g _,T.str_str,_,rfl,J4 ?_⟩
         refine⟨_,rfl,aS,G7q,rfl,.inr (SG.sq _),rfl,A1w _,_,rfl,?_⟩
         have e:inV (.str z) G7q=true:=by
           show inV (.str z) (sigS.map V.str)=true
           rw[A4r]
           simpa using hz z hzm
         rw[e]
         exact J4 ⟨rfl,by omega,_,rfl⟩
       . have e:i=zs.length:=by omega
         subst e
         rw[List.getElem?_append_right (by simp)] at hi
         simp at hi
         subst hi
         refine⟨_,rfl,_,_,_,_,b,rfl,rfl,ty,kk,_,rfl,?_⟩
         cases b with
         |false=>exact V2 (V2 ⟨z1,k⟩)
         | true=>
           obtain⟨z,rfl,nz⟩:=bad.resolve_left (by decide)
           refine J4 ⟨_,rfl,aS,G7q,rfl,.inr (SG.sq _),rfl,A1w _,_,rfl,?_⟩
           have e:inV (.str z) G7q=false:=by
             show inV (.str z) (sigS.map V.str)=false
             rw[A4r]
             simpa using nz
           rw[e]
           exact V2 ⟨z1,k⟩
     . rintro σ H' ⟨rfl,hl,_⟩
       exfalso
       rw[List.length_append,List.length_map,List.length_cons] at hl
       omega
end
noncomputable abbrev B3a:Stmt:=(top 53)
section
variable{P:Program}{w:World}{K:Frag}{mg:Str ->Option Value}{base:Heap}
noncomputable def A1d (zs:List Str):List Str:=sigS.filter fun z=>zs.contains z
noncomputable def J6b (K:Frag):Sp:=fun vs H Q _=>∃(p:Addr) (zs:List Str),vs=[.ref p]/\SqL K H p (zs.map V.str)/\∀l H',Same H H' ->H l=none ->H' l=some (.lst ((A1d zs).map V.str)) ->Q (.ref l) H'
theorem Y5x:FnScope ["names"] ["names"] (A2 B3a):=scK
theorem U7t{f aS:Addr}(D:Def K mg "in_order" ["names"] B3a f fd)(SG:SigK K mg aS):FnOk P w K mg base (CX1 P w) 1 f fd ["names"] (J6b K):=by
 refine FnOk.up (D.F.ok Y5x (fun vs H Q E h=>?_) (fun cdv A outer s H vs Q E hr h=>?_))
 . obtain⟨p,zs,rfl,_⟩:=h
   rfl
 . obtain⟨p,zs,rfl,hp,k⟩:=h
   refine⟨_,(A6 (B3 (U9c (N:=["name"]) (F:=["names"]) (js:=[0]) (CompScopeF.of1 ⟨rfl,by decide+kernel,by decide+kernel,by decide+kernel,by decide+kernel⟩ (by rfl) (by rfl) ⟨_,by rfl⟩ (by rfl) (by rfl)) (.inl hr.hd) (Y5d (Z0s SG.g)) rfl (fun C s₀ H₀ ex pn h=>J5 (i:=0) (by decide+kernel:(["name","names"]:List Str).Nodup) rfl (Or.inl rfl)) (fun C s₀ H₀ ex pn h=>(C4 (G7g (K:=K) rfl) (pv 0) (pv 1) (by rfl))) (fun C s₀ H₀ ex pn h=>(pv 0))))),?_⟩
   refine U8w (zs:=sigS) (f:=fun z=>zs.contains z) (σf:=[some (.ref p)]) SG.sq (by decide) (fun z H' Qb sm q=>?_) (fun z H' Qv q=>⟨_,rfl,q⟩) (fun D H' sm nd e=>k D H' sm nd e) rfl
   refine⟨_,rfl,_,rfl,p,_,rfl,.inl (sm.seq hp),rfl,A1w _,_,rfl,?_⟩
   show Qb (inV (.str z) (zs.map V.str)) H'
   rw[A4r]
   exact q
end
structure CtxC(K:Frag)(mg:Str ->Option Value)(CC:Addr):Prop where
 g:mg "Context"=some (.ref CC)
 cl:Cls K CC
 n_room:NoAttr K CC "room"
 n_rule:NoAttr K CC "rule"
 n_least:NoAttr K CC "least"
 n_most:NoAttr K CC "most"
 n_risen:NoAttr K CC "risen"
 n_trapped:NoAttr K CC "trapped"
noncomputable def A2u (r s l m a b:V):List (Str×V):=U1 "trapped" b (U1 "risen" a (U1 "most" m (U1 "least" l (U1 "rule" s (U1 "room" r [])))))
theorem A3u(r s l m a b:V)(n:Str):(A2u r s l m a b).lookup n=if n="trapped" then some b else if n="risen" then some a else if n="most" then some m else if n="least" then some l else if n="rule" then some s else if n="room" then some r else none:=by
 unfold A2u
 rw[D4,D4,D4,D4,D4,D4]
 rfl
theorem A8k(r s l m a b:V):(A2u r s l m a b).lookup ("room":Str)=some r:=by rw[A3u,if_neg (by decide+kernel),if_neg (by decide+kernel),if_neg (by decide+kernel),if_neg (by decide+kernel),if_neg (by decide+kernel),if_pos rfl]
theorem U7v(r s l m a b:V):(A2u r s l m a b).lookup ("rule":Str)=some s:=by rw[A3u,if_neg (by decide+kernel),if_neg (by decide+kernel),if_neg (by decide+kernel),if_neg (by decide+kernel),if_pos rfl]
theorem D0m(r s l m a b:V):(A2u r s l m a b).lookup ("least":Str)=some l:=by rw[A3u,if_neg (by decide+kernel),if_neg (by decide+kernel),if_neg (by decide+kernel),if_pos rfl]
theorem C2a(r s l m a b:V):(A2u r s l m a b).lookup ("most":Str)=some m:=by rw[A3u,if_neg (by decide+kernel),if_neg (by decide+kernel),if_pos rfl]
theorem C9v(r s l m a b:V):(A2u r s l m a b).lookup ("risen":Str)=some a:=by rw[A3u,if_neg (by decide+kernel),if_pos rfl]
theorem G2a(r s l m a b:V):(A2u r s l m a b).lookup ("trapped":Str)=some b:=by rw[A3u,if_pos rfl]
theorem C2c(r s l m a b:V):(A2u r s l m a b).lookup ("way":Str)=none:=by rw[A3u,if_neg (by decide+kernel),if_neg (by decide+kernel),if_neg (by decide+kernel),if_neg (by decide+kernel),if_neg (by decide+kernel),if_neg (by decide+kernel)]
theorem B2k(r s l m a b:V):(A2u r s l m a b).lookup ("lowest":Str)=none:=by rw[A3u,if_neg (by decide+kernel),if_neg (by decide+kernel),if_neg (by decide+kernel),if_neg (by decide+kernel),if_neg (by decide+kernel),if_neg (by decide+kernel)]
theorem B4w(r s l m a b:V):(A2u r s l m a b).lookup ("flags":Str)=none:=by rw[A3u,if_neg (by decide+kernel),if_neg (by decide+kernel),if_neg (by decide+kernel),if_neg (by decide+kernel),if_neg (by decide+kernel),if_neg (by decide+kernel)]
theorem B2d(r s l m a b:V):(A2u r s l m a b).lookup ("raised":Str)=none:=by rw[A3u,if_neg (by decide+kernel),if_neg (by decide+kernel),if_neg (by decide+kernel),if_neg (by decide+kernel),if_neg (by decide+kernel),if_neg (by decide+kernel)]
structure CtxAt(CC:Addr)(H:Hp)(c:Addr)(r:Int)(y:Wy)(l m:Int)(a b:Addr)(xs ys:List V):Prop where
 ins:∃dx,H c=some (.ins CC dx (A2u (.int r) (.str y.name) (.int l) (.int m) (.ref a) (.ref b)))
 ha:H a=some (.lst xs)
 hb:H b=some (.lst ys)
theorem CtxAt.same{CC:Addr}{H H':Hp}{c:Addr}{r:Int}{y:Wy}{l m:Int}{a b:Addr}{xs ys:List V}(h:CtxAt CC H c r y l m a b xs ys)(e:Same H H'):CtxAt CC H' c r y l m a b xs ys:=by
 obtain⟨⟨dx,z⟩,z1,z2⟩:=h
 exact⟨⟨dx,e _ _ z⟩,e _ _ z1,e _ _ z2⟩
section
variable{P:Program}{w:World}{K:Frag}{mg:Str ->Option Value}{base:Heap}
noncomputable abbrev Z0:Stmt:=(D7 (top 50) 0)
noncomputable abbrev B1g:Stmt:=(D7 (top 50) 1)
noncomputable abbrev B1j:Stmt:=(D7 (top 50) 2)
noncomputable abbrev A1y:Stmt:=(D7 (top 50) 3)
noncomputable def G8s (l:Int) (v:V):Prop:=(v= .non/\l= -60)\/(v= .int l/\ -60<=l/\l<=0)
noncomputable def Z1j (K:Frag) (S:Hp ->Prop) (v1 v2 v3 v4:V):Prop:=(∀H',S H' ->G8k K H' 1 24 v1)\/(G3h 1 24 v1/\((∀H',S H' ->Y8u K H' v2)\/((∃y:Wy,v2= .str y.name)/\((v3≠ .non/\∀H',S H' ->G8k K H' (-60) 0 v3)\/((∃l,G8s l v3)/\∀H',S H' ->G8k K H' 0 60 v4)))))
theorem Exc.none{p a:Addr}{H H':Hp}{o:HO}(x:Exc p H H')(hp:H' p=some o)(n:H' a=none):H a=none:=by
 cases q:H a with
 |none=>rfl
 | some u=>
   have:=x a u q (fun e=>by rw[e,hp] at n;cases n)
   rw[n] at this
   cases this
noncomputable def B5q (K:Frag) (CC CB:Addr):Sp:=fun vs H Q E=>∃p dx v1 v2 v3 v4,vs=[.ref p,v1,v2,v3,v4]/\H p=some (.ins CC dx [])/\
 ((∃r y l m,v1= .int r/\1<=r/\r<=24/\v2= .str (Wy.name y)/\G8s l v3/\v4= .int m/\0<=m/\m<=60/\∀a b H',Exc p H H' ->H a=none ->H b=none ->CtxAt CC H' p r y l m a b [] [] ->Q .non H')\/
  (Z1j K (Exc p H) v1 v2 v3 v4/\∀H',Exc p H H' ->E (.ref CB) none H'))
theorem J8p:FnScope ["self","room","way","least","most"] ["self","room","way","least","most"] (A2 Z0):=scK
theorem U9q:C6j 1 24:=by unfold C6j;decide+kernel
theorem G8p:C6j (-60) 0:=by unfold C6j;decide+kernel
theorem V0a:C6j 0 60:=by unfold C6j;decide+kernel
theorem G7j{f fB fW CC CB CW:Addr}{dV:Value}{cw:Wy ->Addr}{fd fdB fdW:FuncData}(F:FunD K "__init__" "Context.__init__" Z0 dV f fd)(dA:Def K mg "bounded" ["thing","least","most"] A2a fB fdB)(dC:Def K mg "way_of" ["name"] A8c fW fdW)
   (dB:FnOk P w K mg base (CX1 P w) 2 fB fdB ["thing","least","most"] (D0x K CB)) (dD:FnOk P w K mg base (CX1 P w) 1 fW fdW ["name"] (D2v K CB cw)) (C:CtxC K mg CC)
   (W:∀y:Wy,WayC K mg y.cls (cw y) CW) (N:∀y:Wy,Z6s P w K mg base (cw y) y.name):FnOk P w K mg base (CX1 P w) 3 f fd ["self","room","way","least","most"] (B5q K CC CB):=by
 refine F.okE J8p (fun vs H Q E h=>?_) (fun X cdv A outer s H vs Q E hX hr hx h=>?_)
 . obtain⟨p,dx,v1,v2,v3,v4,rfl,_⟩:=h
   rfl
 . subst hX
   obtain⟨p,dx,v1,v2,v3,v4,rfl,hp,h⟩:=h
   obtain⟨y,hy⟩:∃y:Wy,∀z:Wy,v2= .str z.name ->z=y:=by
     by_cases q:∃z:Wy,v2= .str z.name
     . obtain⟨z,rfl⟩:=q
       exact⟨z,fun u e=>Wy.inj (V.str.inj e.symm)⟩
     . exact⟨.down,fun z e=>absurd ⟨z,e⟩ q⟩
   obtain⟨fN,fdN,mN,gN,bN⟩:=N y
   refine⟨_,(A4 (Y0 (pv 0) (C8 dA dB hr hx (A0 (pv 1) (A0 A3 (A0 A3 A5)))) rfl)
     (A4 (Y0 (pv 0) (A4x (C8 dC dD hr hx (A0 (pv 2) A5)) (W y).cl mN gN hr bN .nil hx) rfl)
     (A4 (B7 (Y0 (pv 0) (A4d (C4 Z1c (pv 3) Z0f (B5 _)) (D0u B5s A3) (C8 dA dB hr hx (A0 (pv 3) (A0 (D0u B5s A3) (A0 A3 A5))))) rfl))
     (A4 (Y0 (pv 0) (C8 dA dB hr hx (A0 (pv 4) (A0 A3 (A0 A3 A5)))) rfl)
     (A4 (Y0 (pv 0) (U5 A5) rfl)
     (A6 (Y0 (pv 0) (U5 A5) rfl))))))),?_⟩
   have lz:∀(fs:List (Str×V)) (f:Str) (v:V) (n:Nat),fs.length<=n ->(U1 f v fs).length<=n+1:=fun fs f v n h=>Nat.le_trans (Y9 f v fs) (Nat.succ_le_succ h)
   have q0:(([]:List (Str×V))).length<=0:=Nat.le_refl _
   have z0:0<=sizeLine:=Nat.zero_le _
   rcases h with⟨r,y',l,m,rfl,r1,r2,rfl,hl,rfl,m1,m2,k⟩|⟨bad,k⟩
   . obtain rfl:=hy _ rfl
     refine⟨_,rfl,_,_,_,rfl,U9q,.inl ⟨⟨r,rfl,r1,r2⟩,?_⟩⟩
     refine⟨_,rfl,p,CC,dx,[],rfl,hp,C.cl,C.n_room,by show 0<1000;decide,?_⟩
     refine⟨_,rfl,_,rfl,.inl ⟨_,rfl,fun q dq H2 nq s2 eq=>⟨q,dq,[],rfl,eq,rfl,_,rfl,?_⟩⟩⟩
     have hp2:=s2 _ _ (A8 (H:=H) (a:=p) (o:= .ins CC dx (U1 "room" (.int r) [])))
     have x2:Exc p H H2:=(Exc.upd (H:=H) (o:= .ins CC dx (U1 "room" (.int r) []))).trans (.of s2)
     refine⟨_,rfl,p,CC,dx,_,rfl,hp2,C.cl,C.n_rule,Nat.lt_of_le_of_lt (lz _ _ _ 0 q0) (by decide),?_⟩
     refine⟨fun σ' H'=>σ'=[some (.ref p),some (.int r),some (.str y'.name),some v3,some (.int m)]/\Exc p H H'/\H' p=some (.ins CC dx (U1 "least" (.int l) (U1 "rule" (.str y'.name) (U1 "room" (.int r) [])))),?_,?_⟩
     . refine⟨_,rfl,rfl,_,rfl,?_⟩
       rcases hl with⟨rfl,rfl⟩|⟨rfl,l1,l2⟩
       . refine U7 rfl ⟨_,rfl,?_⟩
         exact⟨_,rfl,p,CC,dx,_,rfl,A8,C.cl,C.n_least,Nat.lt_of_le_of_lt (lz _ _ _ 1 (lz _ _ _ 0 q0)) (by decide),rfl,(x2.trans Exc.upd).trans Exc.upd,A8⟩
       . refine J7 (by intro z;cases z) ⟨_,rfl,_,rfl,_,_,_,rfl,G8p,.inl ⟨⟨l,rfl,l1,l2⟩,?_⟩⟩
         exact⟨_,rfl,p,CC,dx,_,rfl,A8,C.cl,C.n_least,Nat.lt_of_le_of_lt (lz _ _ _ 1 (lz _ _ _ 0 q0)) (by decide),rfl,(x2.trans Exc.upd).trans Exc.upd,A8⟩
     rintro σ' H4 ⟨rfl,x4,hp4⟩
     refine⟨_,rfl,_,_,_,rfl,V0a,.inl ⟨⟨m,rfl,m1,m2⟩,?_⟩⟩
     refine⟨_,rfl,p,CC,dx,_,rfl,hp4,C.cl,C.n_most,Nat.lt_of_le_of_lt (lz _ _ _ 2 (lz _ _ _ 1 (lz _ _ _ 0 q0))) (by decide),?_⟩
     refine⟨z0,fun a na=>?_⟩
     refine⟨_,rfl,p,CC,dx,_,rfl,Same.upd na _ _ A8,C.cl,C.n_risen,Nat.lt_of_le_of_lt (lz _ _ _ 3 (lz _ _ _ 2 (lz _ _ _ 1 (lz _ _ _ 0 q0)))) (by decide),?_⟩
     refine⟨z0,fun b nb=>?_⟩
     refine⟨_,rfl,p,CC,dx,_,rfl,Same.upd nb _ _ A8,C.cl,C.n_trapped,Nat.lt_of_le_of_lt (lz _ _ _ 4 (lz _ _ _ 3 (lz _ _ _ 2 (lz _ _ _ 1 (lz _ _ _ 0 q0))))) (by decide),?_⟩
     have x5:=x4.trans (Exc.upd (H:=H4) (o:= .ins CC dx (U1 "most" (.int m) (U1 "least" (.int l) (U1 "rule" (.str y'.name) (U1 "room" (.int r) []))))))
     have nap:a≠p:=fun e=>by rw[e,A8] at na;cases na
     have nbp:b≠p:=fun e=>by rw[e,A8] at nb;cases nb
     have x6:=(x5.trans (.of (Same.upd (o:= .lst []) na))).trans (Exc.upd (o:= .ins CC dx (U1 "risen" (.ref a) (U1 "most" (.int m) (U1 "least" (.int l) (U1 "rule" (.str y'.name) (U1 "room" (.int r) [])))))))
     have x7:=(x6.trans (.of (Same.upd (o:= .lst []) nb))).trans (Exc.upd (o:= .ins CC dx (A2u (.int r) (.str y'.name) (.int l) (.int m) (.ref a) (.ref b))))
     refine k a b _ x7 (x5.none A8 na) (x6.none A8 nb) ⟨⟨dx,A8⟩,?_,?_⟩
     . rw[C9 nap]
       refine Same.upd nb _ _ ?_
       rw[C9 nap]
       exact A8
     . rw[C9 nbp]
       exact A8
   . rcases bad with b1|⟨⟨r,rfl,r1,r2⟩,bad⟩
     . exact⟨_,rfl,_,_,_,rfl,U9q,.inr ⟨b1 _ (Exc.refl p H),k _ (Exc.refl p H)⟩⟩
     refine⟨_,rfl,_,_,_,rfl,U9q,.inl ⟨⟨r,rfl,r1,r2⟩,?_⟩⟩
     refine⟨_,rfl,p,CC,dx,[],rfl,hp,C.cl,C.n_room,by show 0<1000;decide,?_⟩
     have x1:Exc p H (upd H p (.ins CC dx (U1 "room" (.int r) []))):=Exc.upd
     rcases bad with b2|⟨⟨y',rfl⟩,bad⟩
     . exact⟨_,rfl,_,rfl,.inr ⟨b2 _ x1,k _ x1⟩⟩
     obtain rfl:=hy _ rfl
     refine⟨_,rfl,_,rfl,.inl ⟨_,rfl,fun q dq H2 nq s2 eq=>⟨q,dq,[],rfl,eq,rfl,_,rfl,?_⟩⟩⟩
     have hp2:=s2 _ _ (A8 (H:=H) (a:=p) (o:= .ins CC dx (U1 "room" (.int r) [])))
     have x2:Exc p H H2:=x1.trans (.of s2)
     refine⟨_,rfl,p,CC,dx,_,rfl,hp2,C.cl,C.n_rule,Nat.lt_of_le_of_lt (lz _ _ _ 0 q0) (by decide),?_⟩
     rcases bad with⟨n3,b3⟩|⟨⟨l,hl⟩,b4⟩
     . refine⟨fun _ _=>False,?_,fun _ _ z=>z.elim⟩
       refine⟨_,rfl,rfl,_,rfl,J7 n3 ?_⟩
       exact⟨_,rfl,_,rfl,_,_,_,rfl,G8p,.inr ⟨b3 _ (x2.trans Exc.upd),k _ (x2.trans Exc.upd)⟩⟩
     refine⟨fun σ' H'=>σ'=[some (.ref p),some (.int r),some (.str y'.name),some v3,some v4]/\Exc p H H',?_,?_⟩
     . refine⟨_,rfl,rfl,_,rfl,?_⟩
       rcases hl with⟨rfl,rfl⟩|⟨rfl,l1,l2⟩
       . refine U7 rfl ⟨_,rfl,?_⟩
         exact⟨_,rfl,p,CC,dx,_,rfl,A8,C.cl,C.n_least,Nat.lt_of_le_of_lt (lz _ _ _ 1 (lz _ _ _ 0 q0)) (by decide),rfl,(x2.trans Exc.upd).trans Exc.upd⟩
       . refine J7 (by intro z;cases z) ⟨_,rfl,_,rfl,_,_,_,rfl,G8p,.inl ⟨⟨l,rfl,l1,l2⟩,?_⟩⟩
         exact⟨_,rfl,p,CC,dx,_,rfl,A8,C.cl,C.n_least,Nat.lt_of_le_of_lt (lz _ _ _ 1 (lz _ _ _ 0 q0)) (by decide),rfl,(x2.trans Exc.upd).trans Exc.upd⟩
     rintro σ' H4 ⟨rfl,x4⟩
     exact⟨_,rfl,_,_,_,rfl,V0a,.inr ⟨b4 _ x4,k _ x4⟩⟩
end
section
variable{P:Program}{w:World}{K:Frag}{mg:Str ->Option Value}{base:Heap}
noncomputable def C0t (CC:Addr) (cw:Wy ->Addr):Sp:=fun vs H Q _=>∃c r y l m a b xs ys,vs=[.ref c]/\CtxAt CC H c r y l m a b xs ys/\∀p dx H',H p=none ->Same H H' ->H' p=some (.ins (cw y) dx []) ->Q (.ref p) H'
theorem U8m:FnScope ["self"] ["self"] (A2 B1g):=scK
theorem U0j{f fW CC CB:Addr}{cw:Wy ->Addr}{fd fdW:FuncData}(F:Fun K "way" "Context.way" B1g f fd)(dA:Def K mg "way_of" ["name"] A8c fW fdW)(dB:FnOk P w K mg base (CX1 P w) 1 fW fdW ["name"] (D2v K CB cw))(C:CtxC K mg CC):
   FnOk P w K mg base (CX1 P w) 2 f fd ["self"] (C0t CC cw):=by
 refine F.okE U8m (fun vs H Q E h=>?_) (fun X cdv A outer s H vs Q E hX hr hx h=>?_)
 . obtain⟨c,r,y,l,m,a,b,xs,ys,rfl,_⟩:=h
   rfl
 . subst hX
   obtain⟨c,r,y,l,m,a,b,xs,ys,rfl,⟨⟨dx,e⟩,_,_⟩,k⟩:=h
   refine⟨_,(A6 (B3 (C8 dA dB hr hx (A0 (G3 (pv 0) rfl) A5)))),?_⟩
   exact⟨_,rfl,c,CC,dx,_,_,rfl,e,C.cl,C.n_rule,U7v _ _ _ _ _ _,_,rfl,.inl ⟨y,rfl,k⟩⟩
noncomputable def C1t (CC:Addr):Sp:=fun vs H Q _=>∃c r y l m a b xs ys,vs=[.ref c]/\CtxAt CC H c r y l m a b xs ys/\Q (.int (l-r+1)) H
theorem V0b:FnScope ["self"] ["self"] (A2 B1j):=scK
theorem J8u{f CC:Addr}(F:Fun K "lowest" "Context.lowest" B1j f fd)(C:CtxC K mg CC):FnOk P w K mg base (CX1 P w) 1 f fd ["self"] (C1t CC):=by
 refine FnOk.up (F.ok V0b (fun vs H Q E h=>?_) (fun cdv A outer s H vs Q E hr h=>?_))
 . obtain⟨c,r,y,l,m,a,b,xs,ys,rfl,_⟩:=h
   rfl
 . obtain⟨c,r,y,l,m,a,b,xs,ys,rfl,⟨⟨dx,e⟩,_,_⟩,k⟩:=h
   refine⟨_,(A6 (B3 (A7 D9 (A7 G9 (G3 (pv 0) rfl) (G3 (pv 0) rfl)) A3))),?_⟩
   exact⟨_,rfl,c,CC,dx,_,_,rfl,e,C.cl,C.n_least,D0m _ _ _ _ _ _,_,rfl,c,CC,dx,_,_,rfl,e,C.cl,C.n_room,A8k _ _ _ _ _ _,_,_,rfl,rfl,_,_,rfl,rfl,k⟩
noncomputable def A5e (CC:Addr):Sp:=fun vs H Q _=>∃c r y l m a b xs ys,vs=[.ref c]/\CtxAt CC H c r y l m a b xs ys/\∀p,H p=none ->Q (.ref p) (upd H p (.lst xs))
theorem G7y:FnScope ["self"] ["self"] (A2 A1y):=scK
theorem G1u{f CC:Addr}(F:Fun K "flags" "Context.flags" A1y f fd)(C:CtxC K mg CC)(O:Own mg):FnOk P w K mg base (CX1 P w) 1 f fd ["self"] (A5e CC):=by
 refine FnOk.up (F.ok G7y (fun vs H Q E h=>?_) (fun cdv A outer s H vs Q E hr h=>?_))
 . obtain⟨c,r,y,l,m,a,b,xs,ys,rfl,_⟩:=h
   rfl
 . obtain⟨c,r,y,l,m,a,b,xs,ys,rfl,⟨⟨dx,e⟩,ha,_⟩,k⟩:=h
   refine⟨_,(A6 (B3 (J8 D2z (by rfl) O.list_ boot_list (A0 (G3 (pv 0) rfl) A5)))),?_⟩
   exact⟨_,rfl,c,CC,dx,_,_,rfl,e,C.cl,C.n_risen,C9v _ _ _ _ _ _,a,xs,rfl,.inl (SqL.of ha),k⟩
structure MakeC(P:Program)(w:World)(K:Frag)(mg:Str ->Option Value)(base:Heap)(CC CB fI:Addr)(fdI:FuncData):Prop where
 m:Mk K CC fI
 g:FnOk P w K mg base (CX1 P w) 3 fI fdI ["self","room","way","least","most"] (B5q K CC CB)
theorem Y4e{C x dx:Addr}{H H':Hp}(n1:H x=none)(n2:H dx=none)(ne:dx≠x)(e:Exc x (upd (upd H dx (.own x)) x (.ins C dx [])) H'):Same H H':=fun b o h=>
 e b o (by rw[C9 (D0 h n1),C9 (D0 h n2)];exact h) (D0 h n1)
theorem Y8z{CC CB x dx:Addr}{H:Hp}{Q:VK}{E:XK}{v1 v2 v3 v4:V}{r:Int}{y:Wy}{l m:Int}(n1:H x=none)(n2:H dx=none)(ne:dx≠x)(h1:v1= .int r)(r1:1<=r)(r2:r<=24)(h2:v2= .str y.name)(h3:G8s l v3)(h4:v4= .int m)(m1:0<=m)(m2:m<=60)
   (k:∀a b H',Same H H' ->CtxAt CC H' x r y l m a b [] [] ->Q .non H'):B5q K CC CB [.ref x,v1,v2,v3,v4] (upd (upd H dx (.own x)) x (.ins CC dx [])) Q E:=
 ⟨x,dx,v1,v2,v3,v4,rfl,A8,.inl ⟨r,y,l,m,h1,r1,r2,h2,h3,h4,m1,m2,fun a b H' e _ _ c=>k a b H' (Y4e n1 n2 ne e) c⟩⟩
end
noncomputable abbrev B1n:Stmt:=(D7 (top 15) 0)
section
variable{P:Program}{w:World}{K:Frag}{mg:Str ->Option Value}{base:Heap}
theorem U9a:FnScope ["self","signal"] ["self","signal"] (A2 B1n):=scK
theorem J9r{f CT fI:Addr}(F:Fun K "__init__" "Trapped.__init__" B1n f fd)(XI:ExcI K CT fI)(hn:findIn K (.ref CT) "signal"=some none):FnOk P w K mg base CX0 1 f fd ["self","signal"] (D3c CT "signal"):=by
 refine F.ok U9a (fun vs H Q E h=>?_) (fun cdv A outer s H vs Q E hr h=>?_)
 . obtain⟨e,t,v,rfl,_⟩:=h
   rfl
 . obtain⟨e,t,v,rfl,he,k⟩:=h
   refine⟨_,(A6 (Y4r XI hn (pv 0) (pv 1) rfl)),?_⟩
   exact⟨_,rfl,_,rfl,e,t,rfl,he,fun d nd ne=>k d nd ne⟩
end
noncomputable abbrev A0c:Stmt:=(D7 (top 50) 7)
theorem U6s(r s l m a b:V):(A2u r s l m a b).length=6:=rfl
theorem G8e(r s l m a b v:V):U1 "risen" v (A2u r s l m a b)=A2u r s l m v b:=rfl
section
variable{P:Program}{w:World}{K:Frag}{mg:Str ->Option Value}{base:Heap}
noncomputable def hit (ys zs:List Str):Option Str:=ys.find? fun t=>zs.contains t
noncomputable def C1x (K:Frag) (CC CB CT:Addr):Sp:=fun vs H Q E=>∃c r y l m a b,∃(xs ys:List Str) (v:V),vs=[.ref c,v]/\CtxAt CC H c r y l m a b (xs.map V.str) (ys.map V.str)/\xs.length+100<=1000/\
 ((∃ (p:Addr) (zs:List Str),v= .ref p/\H p=some (.lst (zs.map V.str))/\zs.length<=100/\(∀z∈zs,z∈sigS)/\
     (hit ys zs=none ->∀a' H',Exc c H H' ->H a'=none ->CtxAt CC H' c r y l m a' b ((A1d (xs++zs)).map V.str) (ys.map V.str) ->Q .non H')/\
     (∀t,hit ys zs=some t ->∀a' d H',Exc c H H' ->H a'=none ->CtxAt CC H' c r y l m a' b ((A1d (xs++zs)).map V.str) (ys.map V.str) ->H d=none ->H' d=some (.xd [("signal",.str t)]) ->E (.ref CT) (some d) H'))\/
  (U9y K H v/\E (.ref CB) none H))
theorem scRaised:FnScope ["self","names","name"] ["self","names"] (A2 A0c):=scK
theorem J9q{f f1 f2 fX CC CB CT:Addr}{fd fd1 fd2 fdX:FuncData}(F:Fun K "raised" "Context.raised" A0c f fd)(dA:Def K mg "need_signals" ["names"] B3c f1 fd1)(dB:FnOk P w K mg base (CX1 P w) 1 f1 fd1 ["names"] (J6w K CB))
   (dC:Def K mg "in_order" ["names"] B3a f2 fd2) (dD:FnOk P w K mg base (CX1 P w) 1 f2 fd2 ["names"] (J6b K)) (C:CtxC K mg CC)
   (gT:mg "Trapped"=some (.ref CT)) (XI:ExcI K CT fX) (GX:FnOk P w K mg base CX0 1 fX fdX ["self","signal"] (D3c CT "signal")) (BX:Binds K fdX ["self","signal"] []):FnOk P w K mg base (CX1 P w) 3 f fd ["self","names"] (C1x K CC CB CT):=by
 refine F.okE scRaised (fun vs H Q E h=>?_) (fun X cdv A outer s H vs Q E hX hr hx h=>?_)
 . obtain⟨c,r,y,l,m,a,b,xs,ys,v,rfl,_⟩:=h
   rfl
 . subst hX
   obtain⟨c,r,y,l,m,a,b,xs,ys,v,rfl,⟨⟨dx,e⟩,ha,hb⟩,lx,h⟩:=h
   refine⟨_,(A4 (A2y (C8 dA dB hr hx (A0 (pv 1) A5)))
     (A4 (Y0 (pv 0) (C8 dC dD hr hx (A0 (A7 D1x (G3 (pv 0) rfl) (pv 1)) A5)) rfl)
     (A6 (D2s PassesOwn.leaving rfl (J7p (G3 (pv 0) rfl)) (J5 (i:=2) scRaised.nd rfl (Or.inl rfl)) (A6 (G6 (C4 A4e (pv 2) (pv 1) (by rfl)) (A6 (J9a gT XI GX BX hr hx (A0 (pv 2) A5))) C6)))))),?_⟩
   rcases h with⟨p,zs,rfl,hp,lz,hz,k1,k2⟩|⟨bad,k⟩
   . refine⟨_,rfl,_,rfl,.inl ⟨p,zs,rfl,hp,hz,?_⟩⟩
     refine⟨_,rfl,c,CC,dx,_,_,rfl,e,C.cl,C.n_risen,C9v _ _ _ _ _ _,_,rfl,a,p,_,_,rfl,rfl,ha,hp,C7 (by rw[List.length_map,List.length_map];omega),fun q nq=>?_⟩
     have u1:=Same.upd (o:= .lst (xs.map V.str++zs.map V.str)) nq
     refine⟨q,xs++zs,rfl,SqL.of (by rw[A8,List.map_append]),fun a' H1 s1 n1 e1=>?_⟩
     have s2:=u1.trans s1
     refine⟨_,rfl,c,CC,dx,_,rfl,s2 _ _ e,C.cl,C.n_risen,by rw[U6s];decide,?_⟩
     rw[G8e]
     have nbc:b≠c:=U7a hb e (by intro z;cases z)
     have npc:p≠c:=U7a hp e (by intro z;cases z)
     have nac:a'≠c:=U7a e1 (s2 _ _ e) (by intro z;cases z)
     have x2:Exc c H (upd H1 c (.ins CC dx (A2u (.int r) (.str y.name) (.int l) (.int m) (.ref a') (.ref b)))):=(Exc.of s2).trans Exc.upd
     have hb2:(upd H1 c (.ins CC dx (A2u (.int r) (.str y.name) (.int l) (.int m) (.ref a') (.ref b)))) b=some (.lst (ys.map V.str)):=by rw[C9 nbc];exact s2 _ _ hb
     have hp2:(upd H1 c (.ins CC dx (A2u (.int r) (.str y.name) (.int l) (.int m) (.ref a') (.ref b)))) p=some (.lst (zs.map V.str)):=by rw[C9 npc];exact s2 _ _ hp
     have ct:CtxAt CC (upd H1 c (.ins CC dx (A2u (.int r) (.str y.name) (.int l) (.int m) (.ref a') (.ref b)))) c r y l m a' b ((A1d (xs++zs)).map V.str) (ys.map V.str):=⟨⟨dx,A8⟩,by rw[C9 nac];exact e1,hb2⟩
     refine⟨_,rfl,c,CC,dx,_,_,rfl,A8,C.cl,C.n_trapped,G2a _ _ _ _ _ _,b,rfl,⟨_,SqL.of hb2⟩,?_⟩
     generalize upd H1 c (.ins CC dx (A2u (.int r) (.str y.name) (.int l) (.int m) (.ref a') (.ref b)))=H3 at x2 hb2 hp2 ct ⊢
     refine C0m (xs:=ys.map V.str) (fun i σ H'=>H'=H3/\(∀t∈ys.take i,zs.contains t=false)/\∃v,σ=[some (.ref c),some (.ref p),v]) ⟨rfl,by simp,none,rfl⟩ ?_ ?_ ?_
     . rintro i σ H' _ ⟨rfl,_⟩
       exact SqL.of hb2
     . rintro i x σ H' hi ⟨rfl,ht,v,rfl⟩
       rw[List.getElem?_map] at hi
       obtain⟨t,hti,rfl⟩:=Option.map_eq_some_iff.mp hi
       refine⟨_,rfl,_,rfl,p,_,rfl,.inl (SqL.of hp2),rfl,A1w _,_,rfl,?_⟩
       have hlt:i<ys.length:=(List.getElem?_eq_some_iff.mp hti).1
       have et:ys.take (i+1)=ys.take i++ [t]:=by
         rw[List.take_succ_eq_append_getElem hlt,(List.getElem?_eq_some_iff.mp hti).2]
       cases hc:zs.contains t with
       | false=>
         rw[show(if false=true then !inV (V.str t) (zs.map V.str) else inV (V.str t) (zs.map V.str))=false by rw[if_neg Bool.false_ne_true,A4r,hc]]
         refine J4 ⟨rfl,fun t' h'=>?_,_,rfl⟩
         rw[et] at h'
         rcases List.mem_append.mp h' with h'|h'
         . exact ht t' h'
         . rw[List.mem_singleton.mp h'];exact hc
       | true=>
         rw[show(if false=true then !inV (V.str t) (zs.map V.str) else inV (V.str t) (zs.map V.str))=true by rw[if_neg Bool.false_ne_true,A4r,hc]]
         obtain⟨dx',hc3⟩:=ct.ins
         refine V2 ⟨_,rfl,_,rfl,fun d H4 s4 nd e4=>?_⟩
         refine k2 t ?_ a' d H4 (x2.trans (.of s4)) ((u1.free n1)) (ct.same s4) (x2.none hc3 nd) e4
         unfold hit
         rw[List.find?_eq_some_iff_append]
         refine⟨hc,ys.take i,ys.drop (i+1),?_,fun t' h'=>by rw[ht t' h'];rfl⟩
         have:=List.take_append_drop (i+1) ys
         rw[et] at this
         rw[List.append_assoc] at this
         exact this.symm
     . rintro σ H' ⟨rfl,ht,v,rfl⟩
       refine k1 ?_ a' _ x2 (u1.free n1) ct
       unfold hit
       rw[List.find?_eq_none]
       rw[List.length_map,List.take_length] at ht
       intro t hm
       rw[ht t hm]
       exact Bool.false_ne_true
   . exact⟨_,rfl,_,rfl,.inr ⟨bad,k⟩⟩
end
noncomputable def Wy.goes (y:Wy) (s last part:Int):Bool:=match y with
 | .down=>false
 | .up=>true
 | .floor=>decide (V.int s=V.int 1)
 | .ceiling=>decide (V.int s=V.int 0)
 | .halfUp=>decide (part>=2)
 | .halfDown=>decide (V.int part=V.int 3)
 | .halfEven=>if decide (V.int part=V.int 3)=true then true else if decide (V.int part=V.int 2)=true then decide (V.int (last % 2)=V.int 1) else false
 | .fiveUp=>inV (.int last) [.int 0,.int 5]
noncomputable def Wy.toEnd (y:Wy) (s:Int):Bool:=match y with
 | .down=>false
 | .up=>true
 | .floor=>decide (V.int s=V.int 1)
 | .ceiling=>decide (V.int s=V.int 0)
 | .halfUp=>true
 | .halfDown=>true
 | .halfEven=>true
 | .fiveUp=>false
section
variable{P:Program}{w:World}{K:Frag}{mg:Str ->Option Value}{base:Heap}
noncomputable def A5g (y:Wy):Sp:=fun vs H Q _=>∃p s l t,vs=[.ref p,.int s,.int l,.int t]/\∀H',Same H H' ->Q (.bl (y.goes s l t)) H'
noncomputable def A1k (y:Wy):Sp:=fun vs H Q _=>∃p s,vs=[.ref p,.int s]/\∀H',Same H H' ->Q (.bl (y.toEnd s)) H'
noncomputable def Z5m (P:Program) (w:World) (K:Frag) (mg:Str ->Option Value) (base:Heap) (C:Addr) (y:Wy):Prop:=Has P w K mg base C "goes_up" 1 ["self","sign","last","part"] (A5g y)
noncomputable def Z6r (P:Program) (w:World) (K:Frag) (mg:Str ->Option Value) (base:Heap) (C:Addr) (y:Wy):Prop:=Has P w K mg base C "to_end" 1 ["self","sign"] (A1k y)
noncomputable abbrev sU0:Stmt:=(D7 (top 39) 1)
theorem Z9s:FnScope ["self","sign","last","part"] ["self","sign","last","part"] (A2 sU0):=scK
theorem Z6e(F:Fun K "goes_up" "Down.goes_up" sU0 f fd):FnOk P w K mg base (CX1 P w) 1 f fd ["self","sign","last","part"] (A5g .down):=by
 refine FnOk.up (F.ok Z9s (fun vs H Q E h=>?_) (fun cdv A outer s H vs Q E hr h=>?_))
 . obtain⟨p,z,l,t,rfl,_⟩:=h
   rfl
 . obtain⟨p,z,l,t,rfl,k⟩:=h
   refine⟨_,(A6 (B3 A1h)),?_⟩
   exact k H (Same.refl H)
noncomputable abbrev sT0:Stmt:=(D7 (top 39) 2)
theorem scT0:FnScope ["self","sign"] ["self","sign"] (A2 sT0):=scK
theorem Z6f(F:Fun K "to_end" "Down.to_end" sT0 f fd):FnOk P w K mg base (CX1 P w) 1 f fd ["self","sign"] (A1k .down):=by
 refine FnOk.up (F.ok scT0 (fun vs H Q E h=>?_) (fun cdv A outer s H vs Q E hr h=>?_))
 . obtain⟨p,z,rfl,_⟩:=h
   rfl
 . obtain⟨p,z,rfl,k⟩:=h
   refine⟨_,(A6 (B3 A1h)),?_⟩
   exact k H (Same.refl H)
noncomputable abbrev sU1:Stmt:=(D7 (top 40) 1)
theorem scU1:FnScope ["self","sign","last","part"] ["self","sign","last","part"] (A2 sU1):=scK
theorem Z7m(F:Fun K "goes_up" "Up.goes_up" sU1 f fd):FnOk P w K mg base (CX1 P w) 1 f fd ["self","sign","last","part"] (A5g .up):=by
 refine FnOk.up (F.ok scU1 (fun vs H Q E h=>?_) (fun cdv A outer s H vs Q E hr h=>?_))
 . obtain⟨p,z,l,t,rfl,_⟩:=h
   rfl
 . obtain⟨p,z,l,t,rfl,k⟩:=h
   refine⟨_,(A6 (B3 A1h)),?_⟩
   exact k H (Same.refl H)
noncomputable abbrev sT1:Stmt:=(D7 (top 40) 2)
theorem scT1:FnScope ["self","sign"] ["self","sign"] (A2 sT1):=scK
theorem Z7e(F:Fun K "to_end" "Up.to_end" sT1 f fd):FnOk P w K mg base (CX1 P w) 1 f fd ["self","sign"] (A1k .up):=by
 refine FnOk.up (F.ok scT1 (fun vs H Q E h=>?_) (fun cdv A outer s H vs Q E hr h=>?_))
 . obtain⟨p,z,rfl,_⟩:=h
   rfl
 . obtain⟨p,z,rfl,k⟩:=h
   refine⟨_,(A6 (B3 A1h)),?_⟩
   exact k H (Same.refl H)
noncomputable abbrev sU2:Stmt:=(D7 (top 41) 1)
theorem Z9t:FnScope ["self","sign","last","part"] ["self","sign","last","part"] (A2 sU2):=scK
theorem Z6w(F:Fun K "goes_up" "Floor.goes_up" sU2 f fd):FnOk P w K mg base (CX1 P w) 1 f fd ["self","sign","last","part"] (A5g .floor):=by
 refine FnOk.up (F.ok Z9t (fun vs H Q E h=>?_) (fun cdv A outer s H vs Q E hr h=>?_))
 . obtain⟨p,z,l,t,rfl,_⟩:=h
   rfl
 . obtain⟨p,z,l,t,rfl,k⟩:=h
   refine⟨_,(A6 (B3 (D3 G4 (pv 1) A3 (B5 _)))),?_⟩
   exact⟨_,rfl,rfl,k H (Same.refl H)⟩
noncomputable abbrev sT2:Stmt:=(D7 (top 41) 2)
theorem Z9u:FnScope ["self","sign"] ["self","sign"] (A2 sT2):=scK
theorem Z6v(F:Fun K "to_end" "Floor.to_end" sT2 f fd):FnOk P w K mg base (CX1 P w) 1 f fd ["self","sign"] (A1k .floor):=by
 refine FnOk.up (F.ok Z9u (fun vs H Q E h=>?_) (fun cdv A outer s H vs Q E hr h=>?_))
 . obtain⟨p,z,rfl,_⟩:=h
   rfl
 . obtain⟨p,z,rfl,k⟩:=h
   refine⟨_,(A6 (B3 (D3 G4 (pv 1) A3 (B5 _)))),?_⟩
   exact⟨_,rfl,rfl,k H (Same.refl H)⟩
noncomputable abbrev sU3:Stmt:=(D7 (top 42) 1)
theorem scU3:FnScope ["self","sign","last","part"] ["self","sign","last","part"] (A2 sU3):=scK
theorem Z4r(F:Fun K "goes_up" "Ceiling.goes_up" sU3 f fd):FnOk P w K mg base (CX1 P w) 1 f fd ["self","sign","last","part"] (A5g .ceiling):=by
 refine FnOk.up (F.ok scU3 (fun vs H Q E h=>?_) (fun cdv A outer s H vs Q E hr h=>?_))
 . obtain⟨p,z,l,t,rfl,_⟩:=h
   rfl
 . obtain⟨p,z,l,t,rfl,k⟩:=h
   refine⟨_,(A6 (B3 (D3 G4 (pv 1) A3 (B5 _)))),?_⟩
   exact⟨_,rfl,rfl,k H (Same.refl H)⟩
noncomputable abbrev sT3:Stmt:=(D7 (top 42) 2)
theorem scT3:FnScope ["self","sign"] ["self","sign"] (A2 sT3):=scK
theorem Z5t(F:Fun K "to_end" "Ceiling.to_end" sT3 f fd):FnOk P w K mg base (CX1 P w) 1 f fd ["self","sign"] (A1k .ceiling):=by
 refine FnOk.up (F.ok scT3 (fun vs H Q E h=>?_) (fun cdv A outer s H vs Q E hr h=>?_))
 . obtain⟨p,z,rfl,_⟩:=h
   rfl
 . obtain⟨p,z,rfl,k⟩:=h
   refine⟨_,(A6 (B3 (D3 G4 (pv 1) A3 (B5 _)))),?_⟩
   exact⟨_,rfl,rfl,k H (Same.refl H)⟩
noncomputable abbrev sU4:Stmt:=(D7 (top 43) 1)
theorem scU4:FnScope ["self","sign","last","part"] ["self","sign","last","part"] (A2 sU4):=scK
theorem Z4w(F:Fun K "goes_up" "HalfUp.goes_up" sU4 f fd):FnOk P w K mg base (CX1 P w) 1 f fd ["self","sign","last","part"] (A5g .halfUp):=by
 refine FnOk.up (F.ok scU4 (fun vs H Q E h=>?_) (fun cdv A outer s H vs Q E hr h=>?_))
 . obtain⟨p,z,l,t,rfl,_⟩:=h
   rfl
 . obtain⟨p,z,l,t,rfl,k⟩:=h
   refine⟨_,(A6 (B3 (D3 J6e (pv 3) A3 (B5 _)))),?_⟩
   exact⟨_,rfl,_,_,rfl,rfl,k H (Same.refl H)⟩
noncomputable abbrev sT4:Stmt:=(D7 (top 43) 2)
theorem Z9r:FnScope ["self","sign"] ["self","sign"] (A2 sT4):=scK
theorem Z5f(F:Fun K "to_end" "HalfUp.to_end" sT4 f fd):FnOk P w K mg base (CX1 P w) 1 f fd ["self","sign"] (A1k .halfUp):=by
 refine FnOk.up (F.ok Z9r (fun vs H Q E h=>?_) (fun cdv A outer s H vs Q E hr h=>?_))
 . obtain⟨p,z,rfl,_⟩:=h
   rfl
 . obtain⟨p,z,rfl,k⟩:=h
   refine⟨_,(A6 (B3 A1h)),?_⟩
   exact k H (Same.refl H)
noncomputable abbrev sU5:Stmt:=(D7 (top 44) 1)
theorem scU5:FnScope ["self","sign","last","part"] ["self","sign","last","part"] (A2 sU5):=scK
theorem Z5k(F:Fun K "goes_up" "HalfDown.goes_up" sU5 f fd):FnOk P w K mg base (CX1 P w) 1 f fd ["self","sign","last","part"] (A5g .halfDown):=by
 refine FnOk.up (F.ok scU5 (fun vs H Q E h=>?_) (fun cdv A outer s H vs Q E hr h=>?_))
 . obtain⟨p,z,l,t,rfl,_⟩:=h
   rfl
 . obtain⟨p,z,l,t,rfl,k⟩:=h
   refine⟨_,(A6 (B3 (D3 G4 (pv 3) A3 (B5 _)))),?_⟩
   exact⟨_,rfl,rfl,k H (Same.refl H)⟩
noncomputable abbrev sT5:Stmt:=(D7 (top 44) 2)
theorem Z9w:FnScope ["self","sign"] ["self","sign"] (A2 sT5):=scK
theorem Z7b(F:Fun K "to_end" "HalfDown.to_end" sT5 f fd):FnOk P w K mg base (CX1 P w) 1 f fd ["self","sign"] (A1k .halfDown):=by
 refine FnOk.up (F.ok Z9w (fun vs H Q E h=>?_) (fun cdv A outer s H vs Q E hr h=>?_))
 . obtain⟨p,z,rfl,_⟩:=h
   rfl
 . obtain⟨p,z,rfl,k⟩:=h
   refine⟨_,(A6 (B3 A1h)),?_⟩
   exact k H (Same.refl H)
noncomputable abbrev sU6:Stmt:=(D7 (top 45) 1)
theorem scU6:FnScope ["self","sign","last","part"] ["self","sign","last","part"] (A2 sU6):=scK
theorem Z5q(F:Fun K "goes_up" "HalfEven.goes_up" sU6 f fd):FnOk P w K mg base (CX1 P w) 1 f fd ["self","sign","last","part"] (A5g .halfEven):=by
 refine FnOk.up (F.ok scU6 (fun vs H Q E h=>?_) (fun cdv A outer s H vs Q E hr h=>?_))
 . obtain⟨p,z,l,t,rfl,_⟩:=h
   rfl
 . obtain⟨p,z,l,t,rfl,k⟩:=h
   refine⟨_,(A6 (B3 (U8a (D3 G4 (pv 3) A3 (B5 _)) (Y7 (A2j (D3 G4 (pv 3) A3 (B5 _)) (Y7 (D3 G4 (A7 J1 (pv 2) A3) A3 (B5 _)))))))),?_⟩
   have k:=k H (Same.refl H)
   unfold Wy.goes at k
   refine⟨_,rfl,rfl,_,rfl,?_⟩
   cases e:decide (V.int t=V.int 3) with
   |true=>rw[e] at k;exact V2 k
   | false=>
     rw[e] at k
     refine J4 ⟨_,rfl,rfl,_,rfl,?_⟩
     cases e2:decide (V.int t=V.int 2) with
     |true=>rw[e2] at k;exact V2 ⟨_,rfl,_,_,rfl,rfl,(by decide:(0:Int)<2),rfl,k⟩
     |false=>rw[e2] at k;exact J4 k
noncomputable abbrev sT6:Stmt:=(D7 (top 45) 2)
theorem scT6:FnScope ["self","sign"] ["self","sign"] (A2 sT6):=scK
theorem Z5j(F:Fun K "to_end" "HalfEven.to_end" sT6 f fd):FnOk P w K mg base (CX1 P w) 1 f fd ["self","sign"] (A1k .halfEven):=by
 refine FnOk.up (F.ok scT6 (fun vs H Q E h=>?_) (fun cdv A outer s H vs Q E hr h=>?_))
 . obtain⟨p,z,rfl,_⟩:=h
   rfl
 . obtain⟨p,z,rfl,k⟩:=h
   refine⟨_,(A6 (B3 A1h)),?_⟩
   exact k H (Same.refl H)
noncomputable abbrev sU7:Stmt:=(D7 (top 46) 1)
theorem scU7:FnScope ["self","sign","last","part"] ["self","sign","last","part"] (A2 sU7):=scK
theorem Z5n(F:Fun K "goes_up" "FiveUp.goes_up" sU7 f fd):FnOk P w K mg base (CX1 P w) 1 f fd ["self","sign","last","part"] (A5g .fiveUp):=by
 refine FnOk.up (F.ok scU7 (fun vs H Q E h=>?_) (fun cdv A outer s H vs Q E hr h=>?_))
 . obtain⟨p,z,l,t,rfl,_⟩:=h
   rfl
 . obtain⟨p,z,l,t,rfl,k⟩:=h
   refine⟨_,(A6 (B3 (D3 A4e (pv 2) (Y1 (A0 A3 (A0 A3 A5))) (by rfl)))),?_⟩
   exact⟨_,rfl,C7 (by decide),fun q nq=>⟨q,_,rfl,.inr (SqT.of A8),rfl,rfl,k _ (Same.upd nq)⟩⟩
noncomputable abbrev sT7:Stmt:=(D7 (top 46) 2)
theorem scT7:FnScope ["self","sign"] ["self","sign"] (A2 sT7):=scK
theorem Z6j(F:Fun K "to_end" "FiveUp.to_end" sT7 f fd):FnOk P w K mg base (CX1 P w) 1 f fd ["self","sign"] (A1k .fiveUp):=by
 refine FnOk.up (F.ok scT7 (fun vs H Q E h=>?_) (fun cdv A outer s H vs Q E hr h=>?_))
 . obtain⟨p,z,rfl,_⟩:=h
   rfl
 . obtain⟨p,z,rfl,k⟩:=h
   refine⟨_,(A6 (B3 A1h)),?_⟩
   exact k H (Same.refl H)
end
noncomputable abbrev A3a:Stmt:=(top 26)
noncomputable abbrev A0q:Stmt:=(top 27)
noncomputable abbrev V4:Stmt:=(top 28)
noncomputable abbrev A2v:Stmt:=(top 29)
noncomputable abbrev A3f:Stmt:=(top 30)
noncomputable abbrev A8g:Stmt:=(top 31)
noncomputable abbrev A7w:Stmt:=(top 32)
noncomputable abbrev A2h:Stmt:=(top 33)
noncomputable abbrev A2e:Stmt:=(top 34)
noncomputable abbrev A3d:Stmt:=(top 35)
structure Cv where
 r:Int
 y:Wy
 l:Int
 m:Int
structure Cv.Ok(c:Cv):Prop where
 r1:1<=c.r
 r2:c.r<=24
 l1: -60<=c.l
 l2:c.l<=0
 m1:0<=c.m
 m2:c.m<=60
noncomputable def U6 (ideal:Int):Nat ->Int ->Int ->Int×Int
 |0,f,p=>(f,p)
 |n+1,f,p=>if f % 10=0 then U6 ideal n (f/10) (p+1) else(f,p)
noncomputable def A1c (ideal f p:Int):Int×Int:=U6 ideal (ideal-p).toNat f p
theorem G7k{ideal f p:Int}(h:p<ideal)(z:f % 10=0):A1c ideal f p=A1c ideal (f/10) (p+1):=by
 unfold A1c
 obtain⟨n,hn⟩:∃n,(ideal-p).toNat=n+1:=⟨(ideal-p).toNat-1,by omega⟩
 rw[hn,show(ideal-(p+1)).toNat=n by omega]
 show(if f % 10=0 then U6 ideal n (f/10) (p+1) else(f,p))=_
 rw[if_pos z]
theorem G7s{ideal f p:Int}(h:¬(p<ideal/\f % 10=0)):A1c ideal f p=(f,p):=by
 unfold A1c
 by_cases q:p<ideal
 . obtain⟨n,hn⟩:∃n,(ideal-p).toNat=n+1:=⟨(ideal-p).toNat-1,by omega⟩
   rw[hn]
   show(if f % 10=0 then U6 ideal n (f/10) (p+1) else(f,p))=_
   rw[if_neg fun z=>h ⟨q,z⟩]
 . rw[show(ideal-p).toNat=0 by omega]
   rfl
noncomputable def G8 (f:Int):Int:=((Str.ofString (toString f)).length:Nat)
noncomputable def upI (y:Wy) (s wh pt:Int):Int:=if(if pt=0 then false else y.goes s (wh % 10) pt)=true then wh+1 else wh
noncomputable def C9x (r f q:Int):Int×Int:=if f=A1 r then(f/10,q+1) else(f,q)
noncomputable def Y8 (c:Cv) (s wh pt q ideal:Int):Int×Int:=if pt=0 then A1c ideal wh q else C9x c.r (upI c.y s wh pt) q
noncomputable def U0 (m f p:Int):Bool:=if f=0 then false else decide (p+G8 f-1>m)
noncomputable def V7 (c:Cv) (s:Int):Nm:=if c.y.toEnd s=true then⟨.end_,s,0,0⟩ else⟨.plain,s,A1 c.r-1,c.m-c.r+1⟩
noncomputable def Y3 (pt:Int) (cut:Bool):List Str:=if pt=0 then(if cut=true then ["cut"] else []) else ["off","cut"]
noncomputable def V6 (l L pt:Int):List Str:=if L>=l then [] else if pt=0 then ["faint"] else ["sunk","faint"]
noncomputable def B1m (c:Cv) (s wh pt L q ideal:Int):Nm×List Str:=
 if U0 c.m (Y8 c s wh pt q ideal).1 (Y8 c s wh pt q ideal).2=true then(V7 c s,["burst","off","cut"])
 else(⟨.plain,s,(Y8 c s wh pt q ideal).1,(Y8 c s wh pt q ideal).2⟩,Y3 pt (decide ((Y8 c s wh pt q ideal).2>ideal))++V6 c.l L pt)
noncomputable def B2b (a b:Int):Int:=if b>a then b else a
noncomputable def A1m (a b:Int):Int:=if b<a then b else a
noncomputable def CtxV (CC:Addr) (H:Hp) (c:Addr) (v:Cv) (a b:Addr) (xs ys:List Str):Prop:=CtxAt CC H c v.r v.y v.l v.m a b (xs.map V.str) (ys.map V.str)
theorem CtxV.same{CC:Addr}{H H':Hp}{c:Addr}{v:Cv}{a b:Addr}{xs ys:List Str}(h:CtxV CC H c v a b xs ys)(e:Same H H'):CtxV CC H' c v a b xs ys:=CtxAt.same h e
theorem D0s{CN:Addr}{H:Hp}{Q:VK}{E:XK}{k s f p:V}(h:∀n H',H n=none ->Same H H' ->NumAt CN H' n k s f p ->Q (.ref n) H'):
   ∀x dx,H x=none ->H dx=none ->dx≠x ->D2q CN (.ref x::([k,s,f,p]++ [])) (upd (upd H dx (.own x)) x (.ins CN dx [])) (fun v H2=>v= .non/\Q (.ref x) H2) E:=by
 intro x dx nx nd ne
 refine⟨x,dx,k,s,f,p,rfl,A8,fun H' e kp=>⟨rfl,h x H' nx (fun b o z=>?_) ⟨dx,e⟩⟩⟩
 refine kp b o ?_ (D0 z nx)
 rw[C9 (D0 z nx),C9 (D0 z nd)]
 exact z
section
variable{P:Program}{w:World}{K:Frag}{mg:Str ->Option Value}{base:Heap}
structure CtxM(P:Program)(w:World)(K:Frag)(mg:Str ->Option Value)(base:Heap)(CC CB CT CW:Addr)(cw:Wy ->Addr):Prop where
 c:CtxC K mg CC
 way:Has P w K mg base CC "way" 2 ["self"] (C0t CC cw)
 low:Has P w K mg base CC "lowest" 1 ["self"] (C1t CC)
 raised:Has P w K mg base CC "raised" 3 ["self","names"] (C1x K CC CB CT)
 wc:∀y:Wy,WayC K mg y.cls (cw y) CW
 u:∀y:Wy,Z5m P w K mg base (cw y) y
 e:∀y:Wy,Z6r P w K mg base (cw y) y
noncomputable def D0f (CN:Addr):Sp:=fun vs H Q _=>∃i s f p:Int,vs=[.int i,.int s,.int f,.int p]/\∀n H',H n=none ->Same H H' ->NumIs CN H' n ⟨.plain,s,(A1c i f p).1,(A1c i f p).2⟩ ->Q (.ref n) H'
theorem scNearest:FnScope ["ideal","sign","figures","power"] ["ideal","sign","figures","power"] (A2 A0q):=scK
theorem G8h{f fI CN:Addr}{fd fdI:FuncData}(D:Def K mg "nearest_to" ["ideal","sign","figures","power"] A0q f fd)(N:Num K mg CN)(M:MakeN P w K mg base CN fI fdI):FnOk P w K mg base (CX1 P w) 3 f fd ["ideal","sign","figures","power"] (D0f CN):=by
 refine FnOk.up (D.F.ok scNearest (fun vs H Q E h=>?_) (fun cdv A outer s H vs Q E hr h=>?_))
 . obtain⟨i,s,f,p,rfl,_⟩:=h
   rfl
 . obtain⟨i,sg,fg,pw,rfl,k⟩:=h
   have hx:G5 (A0a CX0 P w K mg base ["ideal","sign","figures","power"] "nearest_to" (A2 A0q) f cdv A outer s H E).nox EKF:=U2
   refine⟨_,(A4 (A2d PassesOwn.never (PW.pt (D2a (C4 B9k (pv 3) (pv 0) (B5 _)) (C0c (C4 G4 (A7 J1 (pv 2) A3) A3 (B5 _))))) (A4 (C5 (i:=2) scNearest.nd rfl (Or.inl rfl) (A7 D5 (pv 2) A3))
     (A6 (C5 (i:=3) scNearest.nd rfl (Or.inl rfl) (A7 D9 (pv 3) A3)))))
     (A6 (B3 (B2m M.m (FnOk.up M.g) hr N.g M.b .nil hx (A0 B9 (A0 (pv 1) (A0 (pv 2) (A0 (pv 3) A5)))))))),?_⟩
   have d10:(0:Int)<10/\(10:Int).natAbs.log2<9000:=⟨by decide,by decide+kernel⟩
   refine A2q (fun σ H2=>H2=H/\∃f p:Int,A1c i f p=A1c i fg pw/\σ=[some (.int i),some (.int sg),some (.int f),some (.int p)]) (fun σ _=>match σ with| [_,_,_,some (.int p)]=>(i-p).toNat|_=>0) ?_ ?_ ?_
   . exact⟨rfl,fg,pw,rfl,rfl⟩
   . rintro σ H2 ⟨rfl,f,p,e,rfl⟩
     have stop:¬(p<i/\f % 10=0) ->∀n H',H2 n=none ->Same H2 H' ->NumAt CN H' n (.str "plain") (.int sg) (.int f) (.int p) ->Q (.ref n) H':=fun h n H' nn sm num=>by
       refine k n H' nn sm ?_
       rw[<-e,G7s h]
       exact num
     refine⟨_,rfl,_,rfl,_,_,rfl,rfl,_,rfl,V0 (fun h1=>?_) (fun h1=>J4 ⟨_,rfl,_,rfl,_,rfl,D0s (stop fun q=>h1 q.1)⟩)⟩
     refine⟨_,rfl,_,_,rfl,rfl,d10.1,rfl,_,rfl,V0 (fun h2=>?_) (fun h2=>⟨_,rfl,_,rfl,_,rfl,D0s (stop fun q=>h2 (congrArg V.int q.2))⟩)⟩
     have h1:p<i:=h1
     have h2:f % 10=0:=by injection h2
     refine⟨_,rfl,_,_,rfl,rfl,d10,_,rfl,_,_,rfl,rfl,⟨rfl,f/10,p+1,(G7k h1 h2).symm.trans e,rfl⟩,?_⟩
     show(i-(p+1)).toNat<(i-p).toNat
     omega
   . rintro σ H2 Q1 Q2 hQ ⟨v,e,v2,e2,a,b,e3,e4,c,e5,q⟩
     refine⟨v,e,v2,e2,a,b,e3,e4,c,e5,?_⟩
     cases c with
     |false=>exact J4 (hQ _ _ (by simpa using q))
     | true=>
       have q:_:=q
       rw[if_pos rfl] at q ⊢
       obtain⟨v3,e6,a2,b2,e7,e8,e9,e10,e11,e12,q⟩:=q
       exact⟨v3,e6,a2,b2,e7,e8,e9,e10,e11,e12,hQ _ _ q⟩
noncomputable def B9e (CC:Addr):Sp:=fun vs H Q _=>∃c v a b xs ys p,∃s wh pt:Int,vs=[.ref c,.int s,.ref p]/\CtxV CC H c v a b xs ys/\H p=some (.tup [.int wh,.int pt])/\∀H',Same H H' ->Q (.int (upI v.y s wh pt)) H'
theorem G2t:FnScope ["context","sign","pair"] ["context","sign","pair"] (A2 V4):=scK
theorem D2x{f CC CB CT CW:Addr}{cw:Wy ->Addr}(D:Def K mg "neighbour" ["context","sign","pair"] V4 f fd)(C:CtxM P w K mg base CC CB CT CW cw):FnOk P w K mg base (CX1 P w) 3 f fd ["context","sign","pair"] (B9e CC):=by
 refine FnOk.up (D.F.ok G2t (fun vs H Q E h=>?_) (fun cdv A outer s H vs Q E hr h=>?_))
 . obtain⟨c,v,a,b,xs,ys,p,sg,wh,pt,rfl,_⟩:=h
   rfl
 . obtain⟨c,v,a,b,xs,ys,p,sg,wh,pt,rfl,hc,hp,k⟩:=h
   have hx:G5 (A0a CX0 P w K mg base ["context","sign","pair"] "neighbour" (A2 V4) f cdv A outer s H E).nox EKF:=U2
   obtain⟨fW,fdW,mW,gW,bW⟩:=C.way
   obtain⟨fU,fdU,mU,gU,bU⟩:=C.u v.y
   refine⟨_,(A4 (G6 (PW.pt (D2a (C4 B2g (G7 G2 (pv 2) A3 (fun _ _=>rfl)) A3 (B5 _)) (C0c (V3 (D0c (A4x (pv 0) C.c.cl mW gW hr bW .nil hx) (C.wc v.y).cl mU gU hr bU .nil hx (A0 (pv 1) (A0 (A7 J1 (G7 G2 (pv 2) A3 (fun _ _=>rfl)) A3) (A0 (G7 G2 (pv 2) A3 (fun _ _=>rfl)) A5)))))))) (A6 (B3 (A7 D9 (G7 G2 (pv 2) A3 (fun _ _=>rfl)) A3))) C6)
     (A6 (B3 (G7 G2 (pv 2) A3 (fun _ _=>rfl))))),?_⟩
   obtain⟨⟨dx,e⟩,_,_⟩:=id hc
   unfold upI at k
   refine⟨_,rfl,p,_,_,_,rfl,rfl,SqT.of hp,C0 (j:=1) rfl,rfl,_,rfl,?_⟩
   by_cases h0:pt=0
   . subst h0
     rw[if_pos rfl,if_neg Bool.false_ne_true] at k
     exact G2g rfl (J4 ⟨_,rfl,p,_,_,_,rfl,rfl,SqT.of hp,C0 (j:=0) rfl,k H (Same.refl H)⟩)
   . rw[if_neg h0] at k
     rw[decide_eq_false (fun q=>h0 (by injection q):¬V.int pt=V.int 0)]
     refine V2 ⟨_,rfl,c,dx,_,rfl,e,C2c _ _ _ _ _ _,c,v.r,v.y,v.l,v.m,a,b,_,_,rfl,hc,fun q dq H1 nq s1 eq=>?_⟩
     refine⟨q,dq,_,rfl,eq,rfl,_,rfl,_,rfl,p,_,_,_,rfl,rfl,SqT.of (s1 _ _ hp),C0 (j:=0) rfl,_,_,rfl,rfl,(by decide:(0:Int)<10),_,rfl,p,_,_,_,rfl,rfl,SqT.of (s1 _ _ hp),C0 (j:=1) rfl,q,sg,wh % 10,pt,rfl,fun H2 s2=>⟨_,rfl,?_⟩⟩
     have s3:=s1.trans s2
     cases g:v.y.goes sg (wh % 10) pt with
     | true=>
       rw[g,if_pos rfl] at k
       exact V2 ⟨_,rfl,p,_,_,_,rfl,rfl,SqT.of (s3 _ _ hp),C0 (j:=0) rfl,_,_,rfl,rfl,k H2 s3⟩
     | false=>
       rw[g,if_neg Bool.false_ne_true] at k
       exact J4 ⟨_,rfl,p,_,_,_,rfl,rfl,SqT.of (s3 _ _ hp),C0 (j:=0) rfl,k H2 s3⟩
noncomputable def G3j (CN CC:Addr):Sp:=fun vs H Q _=>∃c v a b xs ys,∃s f q:Int,vs=[.ref c,.int s,.int f,.int q]/\CtxV CC H c v a b xs ys/\v.Ok/\∀n H',H n=none ->Same H H' ->NumIs CN H' n ⟨.plain,s,(C9x v.r f q).1,(C9x v.r f q).2⟩ ->Q (.ref n) H'
theorem U7b:FnScope ["context","sign","figures","power"] ["context","sign","figures","power"] (A2 A2v):=scK
theorem J9h{f f1 fI CN CC CB CT CW:Addr}{cw:Wy ->Addr}{fd fd1 fdI:FuncData}(D:Def K mg "within_room" ["context","sign","figures","power"] A2v f fd)(dA:Def K mg "ten_to" ["count"] A0d f1 fd1)(dB:FnOk P w K mg base (CX1 P w) 2 f1 fd1 ["count"] A5a)(C:CtxM P w K mg base CC CB CT CW cw)(N:Num K mg CN)(M:MakeN P w K mg base CN fI fdI):
   FnOk P w K mg base (CX1 P w) 3 f fd ["context","sign","figures","power"] (G3j CN CC):=by
 refine FnOk.up (D.F.ok U7b (fun vs H Q E h=>?_) (fun cdv A outer s H vs Q E hr h=>?_))
 . obtain⟨c,v,a,b,xs,ys,sg,f,q,rfl,_⟩:=h
   rfl
 . obtain⟨c,v,a,b,xs,ys,sg,fg,q,rfl,hc,ok,k⟩:=h
   have hx:G5 (A0a CX0 P w K mg base ["context","sign","figures","power"] "within_room" (A2 A2v) f cdv A outer s H E).nox EKF:=U2
   refine⟨_,(A4 (G6 (C4 G4 (pv 2) (C8 dA dB hr hx (A0 (G3 (pv 0) rfl) A5)) (B5 _)) (A6 (B3 (B2m M.m (FnOk.up M.g) hr N.g M.b .nil hx (A0 B9 (A0 (pv 1) (A0 (A7 D5 (pv 2) A3) (A0 (A7 D9 (pv 3) A3) A5))))))) C6)
     (A6 (B3 (B2m M.m (FnOk.up M.g) hr N.g M.b .nil hx (A0 B9 (A0 (pv 1) (A0 (pv 2) (A0 (pv 3) A5)))))))),?_⟩
   have d10:(0:Int)<10/\(10:Int).natAbs.log2<9000:=⟨by decide,by decide+kernel⟩
   obtain⟨⟨dx,e⟩,_,_⟩:=id hc
   have r1:=ok.r1;have r2:=ok.r2
   refine⟨_,rfl,_,rfl,c,CC,dx,_,_,rfl,e,C.c.cl,C.c.n_room,A8k _ _ _ _ _ _,v.r.toNat,(by rw[Int.toNat_of_nonneg (by omega)];rfl),by omega,rfl,_,rfl,?_⟩
   unfold C9x at k
   refine V0 (fun h=>?_) (fun h=>?_)
   . have h:fg=A1 v.r:=by injection h
     rw[if_pos h] at k
     exact⟨_,rfl,_,rfl,_,_,rfl,rfl,d10,_,rfl,_,_,rfl,rfl,D0s k⟩
   . have h:¬fg=A1 v.r:=fun z=>h (congrArg V.int z)
     rw[if_neg h] at k
     exact⟨_,rfl,_,rfl,_,rfl,D0s k⟩
noncomputable def G2e (CN CC:Addr):Sp:=fun vs H Q _=>∃c v a b xs ys n x,vs=[.ref c,.ref n]/\CtxV CC H c v a b xs ys/\NumIs CN H n x/\x.f.natAbs<2^300/\Q (.bl (U0 v.m x.f x.p)) H
theorem U6p:FnScope ["context","number"] ["context","number"] (A2 A3f):=scK
theorem J9c{f f1 CN CC CB CT CW:Addr}{cw:Wy ->Addr}(D:Def K mg "is_beyond" ["context","number"] A3f f fd)(dA:Def K mg "lead_of" ["number"] C1n f1 fd1)(dB:FnOk P w K mg base (CX1 P w) 1 f1 fd1 ["number"] (U9b CN))(C:CtxM P w K mg base CC CB CT CW cw)(N:Num K mg CN):
   FnOk P w K mg base (CX1 P w) 2 f fd ["context","number"] (G2e CN CC):=by
 refine FnOk.up (D.F.ok U6p (fun vs H Q E h=>?_) (fun cdv A outer s H vs Q E hr h=>?_))
 . obtain⟨c,v,a,b,xs,ys,n,x,rfl,_⟩:=h
   rfl
 . obtain⟨c,v,a,b,xs,ys,n,x,rfl,hc,hn,hf,k⟩:=h
   have hx:G5 (A0a CX0 P w K mg base ["context","number"] "is_beyond" (A2 A3f) f cdv A outer s H E).nox EKF:=U2
   refine⟨_,(A6 (B3 (A2j (D3 B2g (G3 (pv 1) rfl) A3 (B5 _)) (Y7 (D3 B2e (C8 dA dB hr hx (A0 (pv 1) A5)) (G3 (pv 0) rfl) (B5 _)))))),?_⟩
   obtain⟨⟨dx,e⟩,_,_⟩:=id hc
   obtain⟨dn,en⟩:=id hn
   unfold U0 at k
   refine⟨_,rfl,n,CN,dn,_,_,rfl,en,N.cl,N.n3,U6u _ _ _ _,rfl,_,rfl,?_⟩
   by_cases h0:x.f=0
   . rw[if_pos h0] at k
     rw[decide_eq_true (congrArg V.int h0)]
     exact J4 k
   . rw[if_neg h0] at k
     rw[decide_eq_false (fun q=>h0 (by injection q):¬V.int x.f=V.int 0)]
     exact V2 ⟨_,rfl,n,_,_,_,_,rfl,hn,hf,_,rfl,c,CC,dx,_,_,rfl,e,C.c.cl,C.c.n_most,C2a _ _ _ _ _ _,_,_,rfl,rfl,k⟩
noncomputable def J7t (CN CC:Addr):Sp:=fun vs H Q _=>∃c v a b xs ys,∃s:Int,vs=[.ref c,.int s]/\CtxV CC H c v a b xs ys/\v.Ok/\∀n H',H n=none ->Same H H' ->NumIs CN H' n ⟨.plain,s,A1 v.r-1,v.m-v.r+1⟩ ->Q (.ref n) H'
theorem Y4w:FnScope ["context","sign"] ["context","sign"] (A2 A7w):=scK
theorem U6w{f f1 fI CN CC CB CT CW:Addr}{cw:Wy ->Addr}{fd fd1 fdI:FuncData}(D:Def K mg "nines" ["context","sign"] A7w f fd)(dA:Def K mg "ten_to" ["count"] A0d f1 fd1)(dB:FnOk P w K mg base (CX1 P w) 2 f1 fd1 ["count"] A5a)(C:CtxM P w K mg base CC CB CT CW cw)(N:Num K mg CN)(M:MakeN P w K mg base CN fI fdI):
   FnOk P w K mg base (CX1 P w) 3 f fd ["context","sign"] (J7t CN CC):=by
 refine FnOk.up (D.F.ok Y4w (fun vs H Q E h=>?_) (fun cdv A outer s H vs Q E hr h=>?_))
 . obtain⟨c,v,a,b,xs,ys,sg,rfl,_⟩:=h
   rfl
 . obtain⟨c,v,a,b,xs,ys,sg,rfl,hc,ok,k⟩:=h
   have hx:G5 (A0a CX0 P w K mg base ["context","sign"] "nines" (A2 A7w) f cdv A outer s H E).nox EKF:=U2
   refine⟨_,(A6 (B3 (B2m M.m (FnOk.up M.g) hr N.g M.b .nil hx (A0 B9 (A0 (pv 1) (A0 (A7 G9 (C8 dA dB hr hx (A0 (G3 (pv 0) rfl) A5)) A3) (A0 (A7 D9 (A7 G9 (G3 (pv 0) rfl) (G3 (pv 0) rfl)) A3) A5))))))),?_⟩
   obtain⟨⟨dx,e⟩,_,_⟩:=id hc
   have r1:=ok.r1;have r2:=ok.r2
   exact⟨_,rfl,_,rfl,c,CC,dx,_,_,rfl,e,C.c.cl,C.c.n_room,A8k _ _ _ _ _ _,v.r.toNat,(by rw[Int.toNat_of_nonneg (by omega)];rfl),by omega,_,_,rfl,rfl,_,rfl,c,CC,dx,_,_,rfl,e,C.c.cl,C.c.n_most,C2a _ _ _ _ _ _,_,rfl,c,CC,dx,_,_,rfl,e,C.c.cl,C.c.n_room,A8k _ _ _ _ _ _,_,_,rfl,rfl,_,_,rfl,rfl,D0s k⟩
noncomputable def J7f (CN CC:Addr):Sp:=fun vs H Q _=>∃c v a b xs ys,∃s:Int,vs=[.ref c,.int s]/\CtxV CC H c v a b xs ys/\v.Ok/\0<=s/\s<=1/\∀n H',Same H H' ->NumIs CN H' n (V7 v s) ->Q (.ref n) H'
theorem Y6j:FnScope ["context","sign"] ["context","sign"] (A2 A8g):=scK
theorem U8e{f f1 f2 CN CN' CC CB CT CW:Addr}{cw:Wy ->Addr}(D:Def K mg "burst" ["context","sign"] A8g f fd)(dA:Def K mg "nines" ["context","sign"] A7w f1 fd1)(dB:FnOk P w K mg base (CX1 P w) 3 f1 fd1 ["context","sign"] (J7t CN CC))(dC:Def K mg "end" ["sign"] G7r f2 fd2)(dD:FnOk P w K mg base (CX1 P w) 3 f2 fd2 ["sign"] (Y8k K CN CN'))(C:CtxM P w K mg base CC CB CT CW cw):
   FnOk P w K mg base (CX1 P w) 4 f fd ["context","sign"] (J7f CN CC):=by
 refine FnOk.up (D.F.ok Y6j (fun vs H Q E h=>?_) (fun cdv A outer s H vs Q E hr h=>?_))
 . obtain⟨c,v,a,b,xs,ys,sg,rfl,_⟩:=h
   rfl
 . obtain⟨c,v,a,b,xs,ys,sg,rfl,hc,ok,s0,s1,k⟩:=h
   have hx:G5 (A0a CX0 P w K mg base ["context","sign"] "burst" (A2 A8g) f cdv A outer s H E).nox EKF:=U2
   obtain⟨fW,fdW,mW,gW,bW⟩:=C.way
   obtain⟨fU,fdU,mU,gU,bU⟩:=C.e v.y
   refine⟨_,(A6 (B3 (A4d (V3 (D0c (A4x (pv 0) C.c.cl mW gW hr bW .nil hx) (C.wc v.y).cl mU gU hr bU .nil hx (A0 (pv 1) A5))) (C8 dC dD hr hx (A0 (pv 1) A5)) (C8 dA dB hr hx (A0 (pv 0) (A0 (pv 1) A5)))))),?_⟩
   obtain⟨⟨dx,e⟩,_,_⟩:=id hc
   unfold V7 at k
   refine⟨_,rfl,c,dx,_,rfl,e,C2c _ _ _ _ _ _,c,v.r,v.y,v.l,v.m,a,b,_,_,rfl,hc,fun q dq H1 nq t1 eq=>?_⟩
   refine⟨q,dq,_,rfl,eq,rfl,_,rfl,q,sg,rfl,fun H2 t2=>⟨_,rfl,?_⟩⟩
   have t3:=t1.trans t2
   cases g:v.y.toEnd sg with
   | true=>
     rw[g,if_pos rfl] at k
     exact V2 ⟨_,rfl,_,rfl,.inl ⟨⟨sg,rfl,s0,s1⟩,fun n H' _ sm num=>k n H' (t3.trans sm) num⟩⟩
   | false=>
     rw[g,if_neg Bool.false_ne_true] at k
     exact J4 ⟨_,rfl,_,rfl,c,v,a,b,xs,ys,sg,rfl,hc.same t3,ok,fun n H' _ sm num=>k n H' (t3.trans sm) num⟩
noncomputable def D0k:Sp:=fun vs H Q _=>∃(pt:Int) (cut:Bool),vs=[.int pt,.bl cut]/\∀l,H l=none ->Q (.ref l) (upd H l (.lst ((Y3 pt cut).map V.str)))
theorem J9n:FnScope ["part","is_cut"] ["part","is_cut"] (A2 A2h):=scK
theorem G8g(D:Def K mg "signals_of_rest" ["part","is_cut"] A2h f fd):FnOk P w K mg base (CX1 P w) 1 f fd ["part","is_cut"] D0k:=by
 refine FnOk.up (D.F.ok J9n (fun vs H Q E h=>?_) (fun cdv A outer s H vs Q E hr h=>?_))
 . obtain⟨pt,cut,rfl,_⟩:=h
   rfl
 . obtain⟨pt,cut,rfl,k⟩:=h
   refine⟨_,(A4 (G6 (C4 B2g (pv 0) A3 (B5 _)) (A6 (B3 (U5 (A0 B9 (A0 B9 A5))))) C6)
     (A6 (B3 (A4d (V3 (pv 1)) (U5 (A0 B9 A5)) (U5 A5))))),?_⟩
   unfold Y3 at k
   refine⟨_,rfl,rfl,_,rfl,?_⟩
   by_cases h0:pt=0
   . subst h0
     rw[if_pos rfl] at k
     refine G2g rfl ⟨_,rfl,_,rfl,?_⟩
     cases cut with
     |true=>exact V2 ⟨C7 (by decide),k⟩
     |false=>exact J4 ⟨C7 (by decide),k⟩
   . rw[if_neg h0] at k
     rw[decide_eq_false (fun q=>h0 (by injection q):¬V.int pt=V.int 0)]
     exact V2 ⟨C7 (by decide),k⟩
noncomputable def D0g (CC:Addr):Sp:=fun vs H Q _=>∃c v a b xs ys,∃L pt:Int,vs=[.ref c,.int L,.int pt]/\CtxV CC H c v a b xs ys/\∀l,H l=none ->Q (.ref l) (upd H l (.lst ((V6 v.l L pt).map V.str)))
theorem J9v:FnScope ["context","lead","part"] ["context","lead","part"] (A2 A2e):=scK
theorem G7h{f CC CB CT CW:Addr}{cw:Wy ->Addr}(D:Def K mg "signals_of_lead" ["context","lead","part"] A2e f fd)(C:CtxM P w K mg base CC CB CT CW cw):FnOk P w K mg base (CX1 P w) 1 f fd ["context","lead","part"] (D0g CC):=by
 refine FnOk.up (D.F.ok J9v (fun vs H Q E h=>?_) (fun cdv A outer s H vs Q E hr h=>?_))
 . obtain⟨c,v,a,b,xs,ys,L,pt,rfl,_⟩:=h
   rfl
 . obtain⟨c,v,a,b,xs,ys,L,pt,rfl,hc,k⟩:=h
   refine⟨_,(A4 (G6 (C4 J6e (pv 1) (G3 (pv 0) rfl) (B5 _)) (A6 (B3 (U5 A5))) C6)
     (A6 (B3 (A4d (C4 G4 (pv 2) A3 (B5 _)) (U5 (A0 B9 A5)) (U5 (A0 B9 (A0 B9 A5))))))),?_⟩
   obtain⟨⟨dx,e⟩,_,_⟩:=id hc
   unfold V6 at k
   refine⟨_,rfl,_,rfl,c,CC,dx,_,_,rfl,e,C.c.cl,C.c.n_least,D0m _ _ _ _ _ _,_,_,rfl,rfl,_,rfl,V0 (fun h=>?_) (fun h=>?_)⟩
   . rw[if_pos h] at k
     exact⟨C7 (by decide),k⟩
   . rw[if_neg h] at k
     refine⟨_,rfl,rfl,_,rfl,V0 (fun h=>?_) (fun h=>?_)⟩
     . rw[if_pos (by injection h)] at k
       exact⟨C7 (by decide),k⟩
     . rw[if_neg fun q=>h (congrArg V.int q)] at k
       exact⟨C7 (by decide),k⟩
noncomputable def G3e (CN CC:Addr):Sp:=fun vs H Q _=>∃c v a b xs ys,∃s i:Int,vs=[.ref c,.int s,.int i]/\CtxV CC H c v a b xs ys/\∀n H',H n=none ->Same H H' ->NumIs CN H' n ⟨.plain,s,0,A1m (B2b i (v.l-v.r+1)) v.m⟩ ->Q (.ref n) H'
theorem U8z:FnScope ["context","sign","ideal"] ["context","sign","ideal"] (A2 A3d):=scK
theorem J8s{f fI CN CC CB CT CW:Addr}{cw:Wy ->Addr}{fd fdI:FuncData}(D:Def K mg "nought" ["context","sign","ideal"] A3d f fd)(C:CtxM P w K mg base CC CB CT CW cw)(N:Num K mg CN)(M:MakeN P w K mg base CN fI fdI)(O:Own mg):FnOk P w K mg base (CX1 P w) 3 f fd ["context","sign","ideal"] (G3e CN CC):=by
 refine FnOk.up (D.F.ok U8z (fun vs H Q E h=>?_) (fun cdv A outer s H vs Q E hr h=>?_))
 . obtain⟨c,v,a,b,xs,ys,sg,i,rfl,_⟩:=h
   rfl
 . obtain⟨c,v,a,b,xs,ys,sg,i,rfl,hc,k⟩:=h
   have hx:G5 (A0a CX0 P w K mg base ["context","sign","ideal"] "nought" (A2 A3d) f cdv A outer s H E).nox EKF:=U2
   obtain⟨fL,fdL,mL,gL,bL⟩:=C.low
   refine⟨_,(A6 (B3 (B2m M.m (FnOk.up M.g) hr N.g M.b .nil hx (A0 B9 (A0 (pv 1) (A0 A3 (A0 (J2 (D0t rfl) (by rfl) O.min_ boot_min (A0 (J2 (V1 rfl) (by rfl) O.max_ boot_max (A0 (pv 2) (A0 (A4x (pv 0) C.c.cl mL gL hr bL .nil hx) A5))) (A0 (G3 (pv 0) rfl) A5))) A5))))))),?_⟩
   obtain⟨⟨dx,e⟩,_,_⟩:=id hc
   exact⟨_,rfl,_,rfl,_,rfl,c,dx,_,rfl,e,B2k _ _ _ _ _ _,c,v.r,v.y,v.l,v.m,a,b,_,_,rfl,hc,_,_,rfl,_,rfl,c,CC,dx,_,_,rfl,e,C.c.cl,C.c.n_most,C2a _ _ _ _ _ _,_,_,rfl,D0s k⟩
end
noncomputable abbrev A0p:Stmt:=(top 25)
noncomputable abbrev A2p:Stmt:=(top 36)
theorem G1z(i:Int):∀(n:Nat) (f p:Int),0<=f ->0<=(U6 i n f p).1/\(U6 i n f p).1<=f
 |0,f,p,h=>⟨h,Int.le_refl _⟩
 | n +1,f,p,h=>by
   show 0<=(if f % 10=0 then U6 i n (f/10) (p+1) else(f,p)).1/\(if f % 10=0 then U6 i n (f/10) (p+1) else(f,p)).1<=f
   by_cases z:f % 10=0
   . rw[if_pos z]
     have:=G1z i n (f/10) (p+1) (by omega)
     omega
   . rw[if_neg z]
     exact⟨h,Int.le_refl _⟩
theorem U6v{t b u1 v1 u2 v2 d:Nat}(h:t*10^u1<10*(b*10^v1))(e:u2+v1<=u1+v2+d):t*10^u2<10^(d+1)*(b*10^v2):=by
 have p:0<10^v1:=Nat.pow_pos (by decide)
 apply Nat.lt_of_mul_lt_mul_right (a:=10^v1)
 calc t*10^u2*10^v1=t*10^(u2+v1):=by rw[Nat.mul_assoc, <-Nat.pow_add]
   _<=t*10^(u1+v2+d):=Nat.mul_le_mul_left t (Nat.pow_le_pow_right (by decide) e)
   _=t*10^u1*(10^v2*10^d):=by rw[Nat.mul_assoc, <-Nat.pow_add, <-Nat.pow_add,Nat.add_assoc]
   _<10*(b*10^v1)*(10^v2*10^d):=Nat.mul_lt_mul_of_pos_right h (Nat.mul_pos (Nat.pow_pos (by decide)) (Nat.pow_pos (by decide)))
   _=10^(d+1)*(b*10^v2)*10^v1:=by rw[Nat.pow_succ];ac_rfl
theorem J7x{t b s1 s2 r:Int}(ht:Sz t)(hb:Sz b)(h:A1j t b s1)(hr:1<=r)(e:s2<=s1+(r-1)):0<=whI t b s2/\whI t b s2<A1 r:=by
 obtain⟨tn,rfl,_,_⟩:=ht.nat
 obtain⟨bn,rfl,b1,_⟩:=hb.nat
 have lp:0<(bn:Int)*A1 (-s2):=Int.mul_pos (by omega) (B8 _)
 refine⟨Int.ediv_nonneg (Int.mul_nonneg (by omega) (Int.le_of_lt (B8 _))) (Int.le_of_lt lp),?_⟩
 refine Int.ediv_lt_of_lt_mul lp ?_
 have a:tn*10^s1.toNat<10*(bn*10^(-s1).toNat):=Int.ofNat_lt.mp h.2
 have c:=U6v (u2:=s2.toNat) (v2:=(-s2).toNat) (d:=(r-1).toNat) a (by
   have x1:=Int.toNat_sub_toNat_neg s1
   have x2:=Int.toNat_sub_toNat_neg s2
   have x3:=Int.toNat_of_nonneg (show 0<=r-1 by omega)
   clear a lp h
   generalize s1.toNat=A at*
   generalize (-s1).toNat=B at*
   generalize s2.toNat=C at*
   generalize (-s2).toNat=D at*
   generalize (r-1).toNat=E at*
   omega)
 rw[show(r-1).toNat+1=r.toNat by omega] at c
 exact Int.ofNat_lt.mpr c
theorem Y4g{r:Int}(h:r<=24):A1 r<=10^24:=by
 unfold A1
 have:10^r.toNat<=10^24:=Nat.pow_le_pow_right (by decide) (by omega)
 exact Int.ofNat_le.mpr this
theorem G8d{c:Cv}{s wh pt q i:Int}(ok:c.Ok)(h0:0<=wh)(h1:wh<A1 c.r):(Y8 c s wh pt q i).1.natAbs<2^300:=by
 have t:=Y4g ok.r2
 have big:((10^24:Nat):Int)=10^24:=by decide+kernel
 have lt:∀z:Int,0<=z ->z<=10^24 ->z.natAbs<2^300:=fun z a b=>Nat.lt_of_le_of_lt (show z.natAbs<=10^24 by omega) (by decide+kernel)
 unfold Y8
 split
 . have:=G1z i (i-q).toNat wh q h0
   exact lt _ this.1 (by unfold A1c;omega)
 . have hu:0<=upI c.y s wh pt/\upI c.y s wh pt<=A1 c.r:=by
     have e:upI c.y s wh pt=wh+1\/upI c.y s wh pt=wh:=by
       unfold upI
       generalize (if pt=0 then false else c.y.goes s (wh % 10) pt)=g
       cases g with
       |true=>exact .inl rfl
       |false=>exact .inr rfl
     omega
   generalize upI c.y s wh pt=u at hu
   unfold C9x
   split
   . exact lt (u/10) (by omega) (by omega)
   . exact lt u (by omega) (by omega)
section
variable{P:Program}{w:World}{K:Frag}{mg:Str ->Option Value}{base:Heap}
theorem U8b:FnScope ["context","exact"] ["context","exact"] (A2 A3a):=scK
noncomputable def Cv.fin (v:Cv) (L:Int):Int:=B2b (L-v.r+1) (v.l-v.r+1)
noncomputable def B4u (v:Cv) (s t bo n L i:Int):Nm×List Str:=B1m v s (whI t bo (n-v.fin L)) (ptI t bo (n-v.fin L)) L (v.fin L) i
noncomputable def Ends2 (CN CC CT:Addr) (H:Hp) (c:Addr) (v:Cv) (b:Addr) (xs ys:List Str) (res:Nm×List Str) (Q:VK) (E:XK):Prop:=
 (hit ys res.2=none ->∀m a' H',Exc c H H' ->CtxV CC H' c v a' b (A1d (xs++res.2)) ys ->NumIs CN H' m res.1 ->Q (.ref m) H')/\
 (∀z,hit ys res.2=some z ->∀a' d H',Exc c H H' ->CtxV CC H' c v a' b (A1d (xs++res.2)) ys ->H' d=some (.xd [("signal",.str z)]) ->E (.ref CT) (some d) H')
noncomputable def B5x (CN CC CT CR:Addr):Sp:=fun vs H Q E=>∃c v a b xs ys x,∃t bo n L s i:Int,vs=[.ref c,.int s,.ref x,.int i]/\CtxV CC H c v a b xs ys/\v.Ok/\xs.length<=900/\RatAt CR H x t bo n/\Sz t/\Sz bo/\A1j t bo (n-L)/\ -1500<=n-v.fin L/\n-v.fin L<=1500/\0<=s/\s<=1/\
 Ends2 CN CC CT H c v b xs ys (B4u v s t bo n L i) Q E
theorem scSettled:FnScope ["context","sign","exact","ideal","finest","pair","number","names"] ["context","sign","exact","ideal"] (A2 A0p):=scK
theorem J8q:∀z∈(["burst","off","cut"]:List Str),z∈sigS:=by decide+kernel
theorem U9r{pt:Int}{cut:Bool}{l L:Int}:∀z∈Y3 pt cut++V6 l L pt,z∈sigS:=by
 have r:∀z∈Y3 pt cut,z∈sigS:=by
   unfold Y3
   split
   . split
     . decide+kernel
     . decide+kernel
   . decide+kernel
 have d:∀z∈V6 l L pt,z∈sigS:=by
   unfold V6
   split
   . decide+kernel
   . split
     . decide+kernel
     . decide+kernel
 intro z hz
 rcases List.mem_append.mp hz with h|h
 . exact r z h
 . exact d z h
theorem U8x{pt:Int}{cut:Bool}{l L:Int}:(Y3 pt cut++V6 l L pt).length<=4:=by
 have r:(Y3 pt cut).length<=2:=by
   unfold Y3
   split
   . split<;>decide
   . decide
 have d:(V6 l L pt).length<=2:=by
   unfold V6
   split
   . decide
   . split<;>decide
 rw[List.length_append]
 omega
noncomputable def B5v (v:Cv) (x:Nm) (L:Int):Nm×List Str:=match x.k with
 | .plain=>if x.f=0 then(⟨.plain,x.s,0,A1m (B2b x.p (v.l-v.r+1)) v.m⟩,[]) else B4u v x.s x.f 1 x.p L x.p
 |_=>(x,[])
end
structure Exa where
 At:Hp ->Addr ->Prop
 L:Int
 wh:Int ->Int
 pt:Int ->Int
 okq:Int ->Prop
structure ExV(CR:Addr)(sp1 sp2:Sp)(e:Exa):Prop where
 same:∀H H' x,e.At H x ->Same H H' ->e.At H' x
 ins:∀H x,e.At H x ->∃dx fs,H x=some (.ins CR dx fs)/\fs.lookup ("first":Str)=none/\fs.lookup ("at":Str)=none
 first:∀H x (Q:VK) (E:XK),e.At H x ->(∀H',Same H H' ->Q (.int e.L) H') ->sp1 [.ref x] H Q E
 at_:∀H x q (Q:VK) (E:XK),e.At H x ->e.okq q ->(∀p H',Same H H' ->H p=none ->H' p=some (.tup [.int (e.wh q),.int (e.pt q)]) ->Q (.ref p) H') ->sp2 [.ref x,.int q] H Q E
structure ExM(P:Program)(w:World)(K:Frag)(mg:Str ->Option Value)(base:Heap)(CR f1 f2:Addr)(fd1 fd2:FuncData)(sp1 sp2:Sp):Prop where
 cl:Cls K CR
 m1:Meth K CR "first" f1
 g1:FnOk P w K mg base (CX1 P w) 4 f1 fd1 ["self"] sp1
 b1:Binds K fd1 ["self"] []
 m2:Meth K CR "at" f2
 g2:FnOk P w K mg base (CX1 P w) 5 f2 fd2 ["self","power"] sp2
 b2:Binds K fd2 ["self","power"] []
theorem FnOk.lift{P:Program}{w:World}{K:Frag}{mg:Str ->Option Value}{base:Heap}{CX:CXT}{j k:Nat}{ps:List Str}{sp:Sp}(h:j<=k)(F:FnOk P w K mg base CX j f fd ps sp):FnOk P w K mg base CX k f fd ps sp:=
 ⟨F.len,fun A outer s H args us vs Q E hr=>F.run A outer s H args us vs Q E (hr.mono h)⟩
theorem FnOk.weak{P:Program}{w:World}{K:Frag}{mg:Str ->Option Value}{base:Heap}{CX:CXT}{k:Nat}{ps:List Str}{sp sp':Sp}(h:∀vs H Q E,sp' vs H Q E ->sp vs H Q E)(F:FnOk P w K mg base CX k f fd ps sp):FnOk P w K mg base CX k f fd ps sp':=
 ⟨fun vs H Q E z=>F.len vs H Q E (h _ _ _ _ z),fun A outer s H args us vs Q E hr e0 hb r z=>F.run A outer s H args us vs Q E hr e0 hb r (h _ _ _ _ z)⟩
theorem FnOk.both{P:Program}{w:World}{K:Frag}{mg:Str ->Option Value}{base:Heap}{CX:CXT}{k:Nat}{ps:List Str}{sp sp':Sp}(F:FnOk P w K mg base CX k f fd ps sp)(G:FnOk P w K mg base CX k f fd ps sp'):FnOk P w K mg base CX k f fd ps (fun vs H Q E=>sp vs H Q E\/sp' vs H Q E):=
 ⟨fun vs H Q E z=>z.elim (F.len vs H Q E) (G.len vs H Q E),fun A outer s H args us vs Q E hr e0 hb r z=>z.elim (F.run A outer s H args us vs Q E hr e0 hb r) (G.run A outer s H args us vs Q E hr e0 hb r)⟩
section
variable{P:Program}{w:World}{K:Frag}{mg:Str ->Option Value}{base:Heap}
noncomputable def D0j (CC CR:Addr) (sp1 sp2:Sp):Sp:=fun vs H Q _=>∃c v a b xs ys x,∃ex:Exa,vs=[.ref c,.ref x]/\CtxV CC H c v a b xs ys/\ExV CR sp1 sp2 ex/\ex.At H x/\∀H',Same H H' ->Q (.int (B2b (ex.L-v.r+1) (v.l-v.r+1))) H'
theorem C1g{f CC CB CT CW CR CE g1 g2:Addr}{cw:Wy ->Addr}(D:Def K mg "finest_power" ["context","exact"] A3a f fd)(C:CtxM P w K mg base CC CB CT CW cw){sp1 sp2:Sp}(RM:ExM P w K mg base CR g1 g2 gd1 gd2 sp1 sp2)(O:Own mg):FnOk P w K mg base (CX1 P w) 5 f fd ["context","exact"] (D0j CC CR sp1 sp2):=by
 refine FnOk.up (D.F.ok U8b (fun vs H Q E h=>?_) (fun cdv A outer s H vs Q E hr h=>?_))
 . obtain⟨c,v,a,b,xs,ys,x,ex,rfl,_⟩:=h
   rfl
 . obtain⟨c,v,a,b,xs,ys,x,ex,rfl,hc,ev,ra,k⟩:=h
   have hx:G5 (A0a CX0 P w K mg base ["context","exact"] "finest_power" (A2 A3a) f cdv A outer s H E).nox EKF:=U2
   obtain⟨fL,fdL,mL,gL,bL⟩:=C.low
   refine⟨_,(A6 (B3 (J2 (V1 rfl) (by rfl) O.max_ boot_max (A0 (A7 D9 (A7 G9 (A4x (pv 1) RM.cl RM.m1 RM.g1 hr RM.b1 .nil hx) (G3 (pv 0) rfl)) A3) (A0 (A4x (pv 0) C.c.cl mL gL hr bL .nil hx) A5))))),?_⟩
   obtain⟨dr,fs,er,nf,_⟩:=ev.ins _ _ ra
   refine⟨_,rfl,x,dr,_,rfl,er,nf,ev.first _ _ _ _ ra fun H1 s1=>?_⟩
   have hc1:=hc.same s1
   obtain⟨⟨dx,e⟩,_,_⟩:=id hc1
   exact⟨_,rfl,c,CC,dx,_,_,rfl,e,C.c.cl,C.c.n_room,A8k _ _ _ _ _ _,_,_,rfl,rfl,_,_,rfl,rfl,_,rfl,c,dx,_,rfl,e,B2k _ _ _ _ _ _,c,v.r,v.y,v.l,v.m,a,b,_,_,rfl,hc1,_,_,rfl,k H1 s1⟩
noncomputable def A5h (CN CC CT CR:Addr) (sp1 sp2:Sp):Sp:=fun vs H Q E=>∃c v a b xs ys x,∃(ex:Exa) (s i:Int),vs=[.ref c,.int s,.ref x,.int i]/\CtxV CC H c v a b xs ys/\v.Ok/\xs.length<=900/\ExV CR sp1 sp2 ex/\ex.At H x/\ex.okq (v.fin ex.L)/\0<=ex.wh (v.fin ex.L)/\ex.wh (v.fin ex.L)<A1 v.r/\0<=s/\s<=1/\
 Ends2 CN CC CT H c v b xs ys (B1m v s (ex.wh (v.fin ex.L)) (ex.pt (v.fin ex.L)) ex.L (v.fin ex.L) i) Q E
theorem B9m{f f1 f2 f3 f4 f5 f6 f7 f8 CN CC CB CT CW CR CE g1 g2:Addr}{cw:Wy ->Addr}{sp1 sp2:Sp}(D:Def K mg "settled" ["context","sign","exact","ideal"] A0p f fd)
   (dA:Def K mg "finest_power" ["context","exact"] A3a f1 fd1) (dB:FnOk P w K mg base (CX1 P w) 5 f1 fd1 ["context","exact"] (D0j CC CR sp1 sp2)) (dC:Def K mg "nearest_to" ["ideal","sign","figures","power"] A0q f2 fd2) (dD:FnOk P w K mg base (CX1 P w) 3 f2 fd2 ["ideal","sign","figures","power"] (D0f CN))
   (dE:Def K mg "neighbour" ["context","sign","pair"] V4 f3 fd3) (dF:FnOk P w K mg base (CX1 P w) 3 f3 fd3 ["context","sign","pair"] (B9e CC)) (dG:Def K mg "within_room" ["context","sign","figures","power"] A2v f4 fd4) (dH:FnOk P w K mg base (CX1 P w) 3 f4 fd4 ["context","sign","figures","power"] (G3j CN CC))
   (dJ:Def K mg "is_beyond" ["context","number"] A3f f5 fd5) (dL:FnOk P w K mg base (CX1 P w) 2 f5 fd5 ["context","number"] (G2e CN CC)) (dM:Def K mg "burst" ["context","sign"] A8g f6 fd6) (dN:FnOk P w K mg base (CX1 P w) 4 f6 fd6 ["context","sign"] (J7f CN CC))
   (dP:Def K mg "signals_of_rest" ["part","is_cut"] A2h f7 fd7) (dQ:FnOk P w K mg base (CX1 P w) 1 f7 fd7 ["part","is_cut"] D0k) (dS:Def K mg "signals_of_lead" ["context","lead","part"] A2e f8 fd8) (dU:FnOk P w K mg base (CX1 P w) 1 f8 fd8 ["context","lead","part"] (D0g CC))
   (C:CtxM P w K mg base CC CB CT CW cw) (RM:ExM P w K mg base CR g1 g2 gd1 gd2 sp1 sp2) (N:Num K mg CN):FnOk P w K mg base (CX1 P w) 6 f fd ["context","sign","exact","ideal"] (A5h CN CC CT CR sp1 sp2):=by
 refine D.F.okE scSettled (fun vs H Q E h=>?_) (fun X cdv A outer s H vs Q E hX hr hx h=>?_)
 . obtain⟨c,v,a,b,xs,ys,x,ex,sg,i,rfl,_⟩:=h
   rfl
 . subst hX
   obtain⟨c,v,a,b,xs,ys,x,ex,sg,i,rfl,hc,ok,lx,ev,ra,q0,wr0,wr1,s0,s1,k⟩:=h
   obtain⟨fR,fdR,mR,gR,bR⟩:=C.raised
   refine⟨_,(A4 (B7 (C5 (i:=4) scSettled.nd rfl (Or.inl rfl) (C8 dA dB hr hx (A0 (pv 0) (A0 (pv 2) A5)))))
     (A4 (B7 (C5 (i:=5) scSettled.nd rfl (Or.inl rfl) (D0c (pv 2) RM.cl RM.m2 RM.g2 hr RM.b2 .nil hx (A0 (pv 4) A5))))
     (A4 (B7 (G6 (C4 G4 (G7 G2 (pv 5) A3 (fun _ _=>rfl)) A3 (B5 _)) (A6 (C5 (i:=6) scSettled.nd rfl (Or.inl rfl) (C8 dC dD hr hx (A0 (pv 3) (A0 (pv 1) (A0 (G7 G2 (pv 5) A3 (fun _ _=>rfl)) (A0 (pv 4) A5))))))) (A6 (C5 (i:=6) scSettled.nd rfl (Or.inl rfl) (C8 dG dH hr hx (A0 (pv 0) (A0 (pv 1) (A0 (C8 dE dF hr hx (A0 (pv 0) (A0 (pv 1) (A0 (pv 5) A5)))) (A0 (pv 4) A5)))))))))
     (A4 (B7 (G6 (V3 (C8 dJ dL hr hx (A0 (pv 0) (A0 (pv 6) A5)))) (A4 (A2y (D0c (pv 0) C.c.cl mR gR hr bR .nil hx (A0 (U5 (A0 B9 (A0 B9 (A0 B9 A5)))) A5)))
     (A6 (B3 (C8 dM dN hr hx (A0 (pv 0) (A0 (pv 1) A5)))))) C6))
     (A4 (B7 (C5 (i:=7) scSettled.nd rfl (Or.inl rfl) (C8 dP dQ hr hx (A0 (G7 G2 (pv 5) A3 (fun _ _=>rfl)) (A0 (D3 B2e (G3 (pv 6) rfl) (pv 3) (B5 _)) A5)))))
     (A4 (B7 (A2y (D0c (pv 0) C.c.cl mR gR hr bR .nil hx (A0 (A7 D1x (pv 7) (C8 dS dU hr hx (A0 (pv 0) (A0 (A4x (pv 2) RM.cl RM.m1 RM.g1 hr RM.b1 .nil hx) (A0 (G7 G2 (pv 5) A3 (fun _ _=>rfl)) A5))))) A5))))
     (A6 (B3 (pv 6))))))))),?_⟩
   have wr:=And.intro wr0 wr1
   unfold B1m at k
   refine⟨fun σ' H'=>Same H H'/\σ'=[some (.ref c),some (.int sg),some (.ref x),some (.int i),some (.int (v.fin ex.L)),none,none,none],?_,?_⟩
   . exact⟨_,rfl,_,rfl,c,v,a,b,xs,ys,x,ex,rfl,hc,ev,ra,fun H' s'=>⟨s',rfl⟩⟩
   rintro σ' H1 ⟨t1,rfl⟩
   have hc1:=hc.same t1
   have ra1:=ev.same _ _ _ ra t1
   generalize v.fin ex.L=q at*
   generalize hwh:ex.wh q=wh at*
   generalize hpt:ex.pt q=pt at*
   refine⟨fun σ' H'=>∃p,Same H1 H'/\H' p=some (.tup [.int wh,.int pt])/\σ'=[some (.ref c),some (.int sg),some (.ref x),some (.int i),some (.int q),some (.ref p),none,none],?_,?_⟩
   . obtain⟨dr,fs,er,_,na⟩:=ev.ins _ _ ra1
     refine⟨_,rfl,x,dr,_,rfl,er,na,_,rfl,ev.at_ _ _ _ _ _ ra1 q0 fun p H' s' np ep=>⟨p,s',?_,rfl⟩⟩
     rw[hwh,hpt] at ep
     exact ep
   rintro σ' H2 ⟨p,t2,hp,rfl⟩
   have hc2:=hc1.same t2
   have sm:=G8d (s:=sg) (pt:=pt) (q:=q) (i:=i) ok wr.1 wr.2
   refine⟨fun σ' H'=>∃m,Same H2 H'/\H2 m=none/\NumIs CN H' m ⟨.plain,sg,(Y8 v sg wh pt q i).1,(Y8 v sg wh pt q i).2⟩/\σ'=[some (.ref c),some (.int sg),some (.ref x),some (.int i),some (.int q),some (.ref p),some (.ref m),none],?_,?_⟩
   . refine⟨_,rfl,p,_,_,_,rfl,rfl,SqT.of hp,C0 (j:=1) rfl,rfl,_,rfl,V0 (fun h=>?_) (fun h=>?_)⟩
     . have h:pt=0:=by injection h
       refine⟨_,rfl,_,rfl,_,rfl,p,_,_,_,rfl,rfl,SqT.of hp,C0 (j:=0) rfl,_,rfl,i,sg,wh,q,rfl,fun m H' nm s' num=>⟨m,s',nm,?_,rfl⟩⟩
       unfold Y8
       rw[if_pos h]
       exact num
     . have h:¬pt=0:=fun z=>h (congrArg V.int z)
       refine⟨_,rfl,_,rfl,_,rfl,_,rfl,_,rfl,c,v,a,b,xs,ys,p,sg,wh,pt,rfl,hc2,hp,fun H3 s3=>?_⟩
       refine⟨_,rfl,c,v,a,b,xs,ys,sg,_,q,rfl,hc2.same s3,ok,fun m H' nm s' num=>⟨m,s3.trans s',s3.free nm,?_,rfl⟩⟩
       unfold Y8
       rw[if_neg h]
       exact num
   rintro σ' H3 ⟨m,t3,nm,num,rfl⟩
   have hc3:=hc2.same t3
   have tA:=(t1.trans t2).trans t3
   have nmc:m≠c:=fun z=>by
     obtain⟨⟨dx,e⟩,_,_⟩:=hc2
     rw[z,e] at nm
     cases nm
   obtain⟨⟨dx,e3⟩,_,_⟩:=id hc3
   generalize hf:(Y8 v sg wh pt q i).1=fg at*
   generalize hg:(Y8 v sg wh pt q i).2=pw at*
   refine⟨fun σ' H'=>H'=H3/\U0 v.m fg pw=false/\σ'=[some (.ref c),some (.int sg),some (.ref x),some (.int i),some (.int q),some (.ref p),some (.ref m),none],?_,?_⟩
   . refine⟨_,rfl,_,rfl,c,v,a,b,xs,ys,m,_,rfl,hc3,num,sm,_,rfl,?_⟩
     cases e:U0 v.m fg pw with
     |false=>exact J4 ⟨rfl,rfl,rfl⟩
     | true=>
       rw[e,if_pos rfl] at k
       refine V2 ⟨_,rfl,c,dx,_,rfl,e3,B2d _ _ _ _ _ _,C7 (by decide),fun l nl=>?_⟩
       have u:=Same.upd (o:= .lst [.str "burst",.str "off",.str "cut"]) nl
       refine⟨c,v.r,v.y,v.l,v.m,a,b,xs,ys,.ref l,rfl,hc3.same u,by omega,.inl ⟨l,["burst","off","cut"],rfl,A8,by decide,J8q,fun hn a' H4 x4 na ct=>?_,fun z hz a' d H4 x4 na ct nd ed=>?_⟩⟩
       . refine⟨_,rfl,_,rfl,c,v,a',b,_,ys,sg,rfl,ct,ok,s0,s1,fun m' H5 s5 num5=>k.1 hn m' a' H5 (((Exc.of (tA.trans u)).trans x4).trans (.of s5)) (CtxV.same ct s5) num5⟩
       . exact k.2 z hz a' d H4 ((Exc.of (tA.trans u)).trans x4) ct ed
   rintro σ' H4 ⟨rfl,e,rfl⟩
   rw[e,if_neg Bool.false_ne_true] at k
   refine⟨fun σ' H'=>∃l,Same H4 H'/\H' l=some (.lst ((Y3 pt (decide (pw>i))).map V.str))/\σ'=[some (.ref c),some (.int sg),some (.ref x),some (.int i),some (.int q),some (.ref p),some (.ref m),some (.ref l)],?_,?_⟩
   . obtain⟨dn,en⟩:=id num
     exact⟨_,rfl,p,_,_,_,rfl,rfl,SqT.of (t3 _ _ hp),C0 (j:=1) rfl,_,rfl,m,CN,dn,_,_,rfl,en,N.cl,N.n4,J9u _ _ _ _,_,rfl,_,_,rfl,rfl,pt,_,rfl,fun l nl=>⟨l,Same.upd nl,A8,rfl⟩⟩
   rintro σ' H5 ⟨l,t5,hl,rfl⟩
   refine⟨fun σ' H'=>hit ys (Y3 pt (decide (pw>i))++V6 v.l ex.L pt)=none/\∃a',Exc c H H'/\CtxV CC H' c v a' b (A1d (xs++(Y3 pt (decide (pw>i))++V6 v.l ex.L pt))) ys/\NumIs CN H' m ⟨.plain,sg,fg,pw⟩/\σ'=[some (.ref c),some (.int sg),some (.ref x),some (.int i),some (.int q),some (.ref p),some (.ref m),some (.ref l)],?_,?_⟩
   . have ra5:=ev.same _ _ _ ra1 ((t2.trans t3).trans t5)
     obtain⟨dr,fs,er,nf,_⟩:=ev.ins _ _ ra5
     have hc5:=hc3.same t5
     refine⟨_,rfl,c,dx,_,rfl,t5 _ _ e3,B2d _ _ _ _ _ _,_,rfl,_,rfl,_,rfl,x,dr,_,rfl,er,nf,ev.first _ _ _ _ ra5 fun H6 t6=>?_⟩
     generalize ex.L=f at*
     refine⟨_,rfl,p,_,_,_,rfl,rfl,SqT.of ((t5.trans t6) _ _ (t3 _ _ hp)),C0 (j:=1) rfl,c,v,a,b,xs,ys,f,pt,rfl,hc5.same t6,fun l2 nl2=>?_⟩
     have u2:=Same.upd (o:= .lst ((V6 v.l f pt).map V.str)) nl2
     have rl:=U8x (pt:=pt) (cut:=decide (pw>i)) (l:=v.l) (L:=f)
     rw[List.length_append] at rl
     refine⟨l,l2,_,_,rfl,rfl,(t6.trans u2) _ _ hl,A8,C7 (by rw[List.length_map,List.length_map];omega),fun l3 nl3=>?_⟩
     have u3:=Same.upd (o:= .lst ((Y3 pt (decide (pw>i))).map V.str++(V6 v.l f pt).map V.str)) nl3
     have tB:=(t6.trans u2).trans u3
     have num7:=(num.same t5).same tB
     obtain⟨dn7,en7⟩:=id num7
     have keep:∀{H':Hp},Exc c _ H' ->NumIs CN H' m ⟨.plain,sg,fg,pw⟩:=fun x7=>⟨dn7,x7 _ _ en7 nmc⟩
     refine⟨c,v.r,v.y,v.l,v.m,a,b,xs,ys,.ref l3,rfl,(hc5.same tB),by omega,.inl ⟨l3,Y3 pt (decide (pw>i))++V6 v.l f pt,rfl,by rw[A8,List.map_append],by rw[List.length_append];omega,U9r,fun hn a' H8 x8 na ct=>?_,fun z hz a' d H8 x8 na ct nd ed=>?_⟩⟩
     . exact⟨hn,a',(Exc.of (tA.trans (t5.trans tB))).trans x8,ct,keep x8,rfl⟩
     . exact k.2 z hz a' d H8 ((Exc.of (tA.trans (t5.trans tB))).trans x8) ct ed
   rintro σ' H6 ⟨hn,a',x6,ct,num6,rfl⟩
   exact⟨_,rfl,k.1 hn m a' H6 x6 ct num6⟩
noncomputable def Y9w (CR:Addr) (t bo n L:Int):Exa:=⟨fun H x=>RatAt CR H x t bo n,L,fun q=>whI t bo (n-q),fun q=>ptI t bo (n-q),fun q=> -1500<=n-q/\n-q<=1500⟩
theorem Z5z{CR:Addr}{t bo n L:Int}(ht:Sz t)(hb:Sz bo)(hL:A1j t bo (n-L)):ExV CR (A4c CR) (C1f CR) (Y9w CR t bo n L) where
 same:=fun _ _ _ h s=>RatAt.same h s
 ins:=fun _ _ h=>by
   obtain⟨dx,e⟩:=h
   exact⟨dx,_,e,D2t _ _ _,D0p _ _ _⟩
 first:=fun H x Q E h k=>⟨x,t,bo,n,rfl,h,ht,hb,fun f H' s ld=>by
   have ef:f=L:=by
     have:=Y4j (show 0<bo by have:=hb.1;omega) ld hL
     omega
   rw[ef]
   exact k H' s⟩
 at_:=fun H x q Q E h ok k=>⟨x,t,bo,n,q,rfl,h,ht,hb,ok.1,ok.2,fun p H' s np ep=>k p H' s np ep⟩
theorem ratM{CR CE g1 g2:Addr}(RM:RatM P w K mg base CR g1 g2 gd1 gd2)(R:RatC K mg CR CE):ExM P w K mg base CR g1 g2 gd1 gd2 (A4c CR) (C1f CR):=⟨R.cl,RM.m1,RM.g1,RM.b1,RM.m2,FnOk.lift (by decide) RM.g2,RM.b2⟩
theorem G3q{CN CC CT CR:Addr}{vs:List V}{H:Hp}{Q:VK}{E:XK}(h:B5x CN CC CT CR vs H Q E):A5h CN CC CT CR (A4c CR) (C1f CR) vs H Q E:=by
 obtain⟨c,v,a,b,xs,ys,x,t,bo,n,L,sg,i,rfl,hc,ok,lx,ra,ht,hb,hL,q0,q1,s0,s1,k⟩:=h
 have wr:=J7x (s2:=n-v.fin L) ht hb hL ok.r1 (by
   unfold Cv.fin B2b
   split<;>omega)
 exact⟨c,v,a,b,xs,ys,x,Y9w CR t bo n L,sg,i,rfl,hc,ok,lx,Z5z ht hb hL,ra,⟨q0,q1⟩,wr.1,wr.2,s0,s1,k⟩
end
noncomputable def A7t (t s:Int):Prop:=A1 (-s)<=t*A1 s/\t*A1 s<100*A1 (-s)
noncomputable def A1e (t s wh:Int):Prop:=0<=wh/\wh*wh*A1 (-s)<=t*A1 s/\t*A1 s<(wh+1)*(wh+1)*A1 (-s)
noncomputable def G6t (t s wh:Int):Int:=if wh*wh*A1 (-s)=t*A1 s then 0 else 1+(if decide ((2*wh+1)*(2*wh+1)*A1 (-s)<=4*(t*A1 s))=true then 1 else 0)+(if decide ((2*wh+1)*(2*wh+1)*A1 (-s)<4*(t*A1 s))=true then 1 else 0)
structure Muls(t s wh:Int):Prop where
 o1:IntMulOk t (A1 s)
 o2:IntMulOk wh wh
 o3:IntMulOk (wh*wh) (A1 (-s))
 o4:IntMulOk (wh+1) (wh+1)
 o5:IntMulOk ((wh+1)*(wh+1)) (A1 (-s))
 o6:IntMulOk (2*wh+1) (2*wh+1)
 o7:IntMulOk ((2*wh+1)*(2*wh+1)) (A1 (-s))
theorem A0e{s:Int}(h:s<=0):A1 s=1:=by unfold A1;rw[show s.toNat=0 by omega];rfl
theorem G1v{t s r:Int}(ht:0<t)(h1:A7t t s)(h2:A7t t r)(hp:(r-s) % 2=0):r<=s:=by
 apply Classical.byContradiction
 intro h
 have hs:s<=r:=by omega
 have c:=A0f hs
 have g:A1 2<=A1 (r-s):=D8 (by omega)
 have e100:A1 2=100:=by decide+kernel
 rw[e100] at g
 have p1:=B8 (-s)
 have p2:=B8 (-r)
 have e:t*A1 r*A1 (-s)=t*A1 s*A1 (-r)*A1 (r-s):=by
   calc t*A1 r*A1 (-s)=t*(A1 r*A1 (-s)):=by ac_rfl
     _=t*(A1 s*A1 (-r)*A1 (r-s)):=by rw[c]
     _=t*A1 s*A1 (-r)*A1 (r-s):=by ac_rfl
 have a1:t*A1 r*A1 (-s)<100*A1 (-r)*A1 (-s):=Int.mul_lt_mul_of_pos_right h2.2 p1
 have hp:0<t*A1 s:=Int.mul_pos ht (B8 s)
 have a2:t*A1 s*A1 (-r)*100<=t*A1 s*A1 (-r)*A1 (r-s):=Int.mul_le_mul_of_nonneg_left g (Int.le_of_lt (Int.mul_pos hp p2))
 have a3:A1 (-s)*A1 (-r)<=t*A1 s*A1 (-r):=Int.mul_le_mul_of_nonneg_right h1.1 (Int.le_of_lt p2)
 have e2:100*A1 (-r)*A1 (-s)=A1 (-s)*A1 (-r)*100:=by ac_rfl
 have a4:A1 (-s)*A1 (-r)*100<=t*A1 s*A1 (-r)*100:=Int.mul_le_mul_of_nonneg_right a3 (by decide)
 rw[e,e2] at a1
 exact absurd (Int.lt_of_lt_of_le a1 (Int.le_trans a4 a2)) (Int.lt_irrefl _)
theorem U7g{t n f g:Int}(ht:0<t)(h1:A7t t (n-2*f))(h2:A7t t (n-2*g)):f=g:=by
 have a:=G1v ht h1 h2 (by omega)
 have b:=G1v ht h2 h1 (by omega)
 omega
noncomputable def SzQ (t:Int):Prop:=1<=t/\t<10^61
theorem G3c{t s:Int}(ht:SzQ t)(h:A7t t s): -61<=s/\s<=1:=by
 refine⟨?_,?_⟩
 . apply Classical.byContradiction
   intro hs
   have g:A1 61<=A1 (-s):=D8 (by omega)
   have e61:A1 61=10^61:=by decide+kernel
   have a:=h.1
   rw[A0e (by omega:s<=0),Int.mul_one] at a
   rw[e61] at g
   have:=ht.2
   omega
 . apply Classical.byContradiction
   intro hs
   have g:A1 2<=A1 s:=D8 (by omega)
   have e2:A1 2=100:=by decide+kernel
   have a:=h.2
   rw[A0e (by omega: -s<=0)] at a
   have:1*A1 s<=t*A1 s:=Int.mul_le_mul_of_nonneg_right ht.1 (Int.le_of_lt (B8 _))
   omega
theorem A2f{s:Int}(h:s<=200):(A1 s).natAbs<2^700:=by
 unfold A1
 rw[Int.natAbs_natCast]
 exact Nat.lt_of_le_of_lt (Nat.pow_le_pow_right (by decide) (show s.toNat<=200 by omega)) (by decide+kernel)
theorem SzQ.small{t:Int}(h:SzQ t):t.natAbs<2^203:=by
 have e:(10^61:Int).natAbs<2^203:=by decide+kernel
 have:=h.1;have:=h.2
 omega
theorem C0y{k:Nat}(h:k<=1000):(2:Nat)^k<=2^1000:=Nat.pow_le_pow_right (by decide) h
theorem G2f{t s:Int}(ht:SzQ t)(h:s<=200):(t*A1 s).natAbs<2^903:=by
 rw[Int.natAbs_mul]
 exact Nat.lt_of_lt_of_le (Nat.mul_lt_mul'' ht.small (A2f h)) (Nat.le_of_eq (Nat.pow_add 2 203 700).symm)
theorem G7n{t s wh:Int}(ht:SzQ t)(h2:s<=200)(r:A1e t s wh):wh.natAbs<2^452:=by
 obtain⟨w0,w1,_⟩:=r
 obtain⟨n,rfl⟩:=Int.eq_ofNat_of_zero_le w0
 rw[Int.natAbs_natCast]
 have hh:=G2f ht h2
 have l1:(1:Int)<=A1 (-s):=B8 (-s)
 have a:(n:Int)*n*1<=(n:Int)*n*A1 (-s):=Int.mul_le_mul_of_nonneg_left l1 (Int.mul_nonneg w0 w0)
 have b:(n:Int)*n<=t*A1 s:=by omega
 have c:n*n<2^903:=by
   have:((n*n:Nat):Int)<=t*A1 s:=b
   omega
 apply Classical.byContradiction
 intro z
 have:2^452*2^452<=n*n:=Nat.mul_le_mul (by omega) (by omega)
 rw[<-Nat.pow_add] at this
 have q:(2:Nat)^903<=2^(452+452):=Nat.pow_le_pow_right (by decide) (by decide)
 exact absurd (Nat.lt_of_lt_of_le c (Nat.le_trans q this)) (Nat.lt_irrefl _)
theorem U8s{a:Int}{k:Nat}(h:a.natAbs<2^k):(a*a).natAbs<2^(k+k):=by
 rw[Int.natAbs_mul,Nat.pow_add]
 exact Nat.mul_lt_mul'' h h
theorem Y4c{t s wh:Int}(ht:SzQ t)(h1: -200<=s)(h2:s<=200)(r:A1e t s wh):Muls t s wh:=by
 have rs:=G7n ht h2 r
 have w0:=r.1
 have l:(A1 (-s)).natAbs<2^1000:=Nat.lt_of_lt_of_le (A2f (by omega)) (C0y (by decide))
 have d:(2:Nat)^454=4*2^452:=by rw[show 454=2+452 from rfl,Nat.pow_add]
 have e:∀{a:Int},a.natAbs<2^454 ->a.natAbs<2^1000:=fun h=>Nat.lt_of_lt_of_le h (C0y (by decide))
 have e2:∀{a:Int},a.natAbs<2^454 ->(a*a).natAbs<2^1000:=fun h=>Nat.lt_of_lt_of_le (U8s h) (C0y (by decide))
 have b1:wh.natAbs<2^454:=by omega
 have b2:(wh+1).natAbs<2^454:=by omega
 have b3:(2*wh+1).natAbs<2^454:=by omega
 exact⟨U8 (Nat.lt_of_lt_of_le ht.small (C0y (by decide))) (Nat.lt_of_lt_of_le (A2f h2) (C0y (by decide))),U8 (e b1) (e b1),U8 (e2 b1) l,U8 (e b2) (e b2),U8 (e2 b2) l,U8 (e b3) (e b3),U8 (e2 b3) l⟩
theorem J6m{t s a b:Int}(ha:A1e t s a)(hb:A1e t s b):b<=a:=by
 apply Classical.byContradiction
 intro h
 have p:=B8 (-s)
 have q:(a+1)*(a+1)<=b*b:=Int.mul_le_mul (by omega) (by omega) (by have:=ha.1;omega) hb.1
 have q2:(a+1)*(a+1)*A1 (-s)<=b*b*A1 (-s):=Int.mul_le_mul_of_nonneg_right q (Int.le_of_lt p)
 have:=ha.2.2
 have:=hb.2.1
 omega
theorem Y4u{t s a b:Int}(ha:A1e t s a)(hb:A1e t s b):a=b:=Int.le_antisymm (J6m hb ha) (J6m ha hb)
noncomputable abbrev A5d:Stmt:=(D7 (top 7) 0)
structure RooC(K:Frag)(mg:Str ->Option Value)(CR CE:Addr):Prop where
 g:mg "Root"=some (.ref CR)
 ge:mg "Exact"=some (.ref CE)
 cl:Cls K CR
 n_top:NoAttr K CR "top"
 n_power:NoAttr K CR "power"
 ca:findIn K (.ref CR) "__class__"=some (some (.builtin "object.__class__"))
 sn:specialIn K (.builtin "object.__class__") "__get__"=some (some (.builtin "getset_descriptor.__get__"))
 tk:takesIn K (.builtin "object.__class__")=some true
 ob:mroIn K CR (.type "object")=some true
 up:kitOne K (.ref CR) (.ref CE)=some true
noncomputable def G3b (t n:V):List (Str×V):=U1 "power" n (U1 "top" t [])
theorem D2e(t n:V)(x:Str):(G3b t n).lookup x=if x="power" then some n else if x="top" then some t else none:=by
 unfold G3b
 rw[D4,D4]
 rfl
theorem J6j(t n:V):(G3b t n).lookup ("top":Str)=some t:=by rw[D2e,if_neg (by decide+kernel),if_pos rfl]
theorem D0h(t n:V):(G3b t n).lookup ("power":Str)=some n:=by rw[D2e,if_pos rfl]
theorem D2h(t n:V):(G3b t n).lookup ("first":Str)=none:=by rw[D2e,if_neg (by decide+kernel),if_neg (by decide+kernel)]
theorem U0v(t n:V):(G3b t n).lookup ("at":Str)=none:=by rw[D2e,if_neg (by decide+kernel),if_neg (by decide+kernel)]
noncomputable def RooAt (CR:Addr) (H:Hp) (x:Addr) (t n:Int):Prop:=∃dx,H x=some (.ins CR dx (G3b (.int t) (.int n)))
theorem RooAt.same{CR:Addr}{H H':Hp}{x:Addr}{t n:Int}(h:RooAt CR H x t n)(s:Same H H'):RooAt CR H' x t n:=by
 obtain⟨dx,e⟩:=h
 exact⟨dx,s _ _ e⟩
section
variable{P:Program}{w:World}{K:Frag}{mg:Str ->Option Value}{base:Heap}
noncomputable def D2y (CR:Addr):Sp:=fun vs H Q _=>∃(p dx:Addr) (t n:V),vs=[.ref p,t,n]/\H p=some (.ins CR dx [])/\∀H',H' p=some (.ins CR dx (G3b t n)) ->Exc p H H' ->Q .non H'
theorem Y4x:FnScope ["self","top","power"] ["self","top","power"] (A2 A5d):=scK
theorem U8r{f CR CE:Addr}{dV:Value}(F:FunD K "__init__" "Root.__init__" A5d dV f fd)(R:RooC K mg CR CE):FnOk P w K mg base (CX1 P w) 1 f fd ["self","top","power"] (D2y CR):=by
 refine F.okE Y4x (fun vs H Q E h=>?_) (fun X cdv A outer s H vs Q E hX hr hx h=>?_)
 . obtain⟨p,dx,a,c,rfl,_⟩:=h
   rfl
 . subst hX
   obtain⟨p,dx,a,c,rfl,hp,k⟩:=h
   refine⟨_,(A4 (Y0 (pv 0) (pv 1) rfl)
     (A6 (Y0 (pv 0) (pv 2) rfl))),?_⟩
   have l:∀(fs:List (Str×V)) (f:Str) (v:V) (n:Nat),fs.length<=n ->(U1 f v fs).length<=n+1:=fun fs f v n h=>Nat.le_trans (Y9 f v fs) (Nat.succ_le_succ h)
   refine⟨_,rfl,_,rfl,p,CR,dx,[],rfl,hp,R.cl,R.n_top,(by show 0<1000;decide),?_⟩
   refine⟨_,rfl,_,rfl,p,CR,dx,_,rfl,A8,R.cl,R.n_power,Nat.lt_of_le_of_lt (l _ _ _ 0 (Nat.le_refl _)) (by decide),?_⟩
   refine k _ A8 fun b o e hb=>?_
   rw[C9 hb,C9 hb]
   exact e
noncomputable def A8e (CR:Addr):Sp:=fun vs H Q _=>∃x t n,vs=[.ref x]/\RooAt CR H x t n/\SzQ t/\ -900<=n/\n<=900/\∀f H',Same H H' ->A7t t (n-2*f) ->Q (.int f) H'
noncomputable def G2y (CR:Addr):Sp:=fun vs H Q _=>∃x t n p,vs=[.ref x,.int p]/\RooAt CR H x t n/\SzQ t/\ -200<=n-2*p/\n-2*p<=200/\
 ∀wh q H',Same H H' ->H q=none ->A1e t (n-2*p) wh ->H' q=some (.tup [.int wh,.int (G6t t (n-2*p) wh)]) ->Q (.ref q) H'
structure MakeQ(P:Program)(w:World)(K:Frag)(mg:Str ->Option Value)(base:Heap)(CR fI:Addr)(fdI:FuncData)(d0:Value)(gP:List Value ->List Value ->List Value)(vP:List V ->List V ->List V):Prop where
 m:Mk K CR fI
 g:FnOk P w K mg base (CX1 P w) 1 fI fdI ["self","top","power"] (D2y CR)
 b3:Binds K fdI ["self","top","power"] []
 b2:Binds K fdI ["self","top","power"] [d0]
 r0:RelV (.int 0) d0
 kP:KBinds K fdI ["self","top","power"] ["power"] gP vP
 eP:∀x a c,vP [x,a] [c]=[x,a,c]
structure RooM(P:Program)(w:World)(K:Frag)(mg:Str ->Option Value)(base:Heap)(CR f1 f2:Addr)(fd1 fd2:FuncData):Prop where
 m1:Meth K CR "first" f1
 g1:FnOk P w K mg base (CX1 P w) 4 f1 fd1 ["self"] (A8e CR)
 b1:Binds K fd1 ["self"] []
 m2:Meth K CR "at" f2
 g2:FnOk P w K mg base (CX1 P w) 5 f2 fd2 ["self","power"] (G2y CR)
 b2:Binds K fd2 ["self","power"] []
theorem Z6c{CR x dx:Addr}{H:Hp}{Q:VK}{E:XK}{t n:Int}(n1:H x=none)(n2:H dx=none)(ne:dx≠x)(k:∀H',Same H H' ->RooAt CR H' x t n ->Q .non H'):
   D2y CR [.ref x,.int t,.int n] (upd (upd H dx (.own x)) x (.ins CR dx [])) Q E:=
 ⟨x,dx,_,_,rfl,A8,fun H' e s=>k H' (fun c o z=>s c o (by rw[C9 (D0 z n1),C9 (D0 z n2)];exact z) (D0 z n1)) ⟨dx,e⟩⟩
end
noncomputable abbrev A7y:Stmt:=(top 10)
theorem Z1p{n g:Nat}(hg:1<=g):n<((g+n/g)/2+1)*((g+n/g)/2+1):=by
 have q:n<g*(n/g+1):=by
   have:=Nat.div_add_mod n g
   have:=Nat.mod_lt n hg
   rw[Nat.mul_add,Nat.mul_one]
   omega
 generalize n/g=d at q
 have b:g+(d+1)<=2*((g+d)/2+1):=by omega
 generalize (g+d)/2+1=c at b
 have s1:(g+(d+1))*(g+(d+1))<=2*c*(2*c):=Nat.mul_le_mul b b
 have s2:4*(g*(d+1))<=(g+(d+1))*(g+(d+1)):=by
   generalize d+1=e
   rcases Nat.le_total g e with h|h
   . obtain⟨k,rfl⟩:=Nat.exists_eq_add_of_le h
     have e1:(g+(g+k))*(g+(g+k))=4*(g*(g+k))+k*k:=by
       simp only[Nat.mul_add,Nat.add_mul]
       have:=Nat.mul_comm k g
       omega
     omega
   . obtain⟨k,rfl⟩:=Nat.exists_eq_add_of_le h
     have e1:(e+k+e)*(e+k+e)=4*((e+k)*e)+k*k:=by
       simp only[Nat.mul_add,Nat.add_mul]
       have:=Nat.mul_comm k e
       omega
     omega
 have s3:2*c*(2*c)=4*(c*c):=by
   rw[Nat.mul_mul_mul_comm]
 omega
section
variable{P:Program}{w:World}{K:Frag}{mg:Str ->Option Value}{base:Heap}
noncomputable def J7w:Sp:=fun vs H Q _=>∃n:Nat,vs=[.int (n:Int)]/\n<10^300/\∀r:Nat,r*r<=n ->n<(r+1)*(r+1) ->Q (.int (r:Int)) H
theorem scWRoot:FnScope ["whole","guess","better"] ["whole"] (A2 A7y):=scK
theorem U7d (D:Def K mg "whole_root" ["whole"] A7y f fd) (dA:Def K mg "ten_to" ["count"] A0d f1 fd1) (dB:FnOk P w K mg base (CX1 P w) 2 f1 fd1 ["count"] A5a) (dC:Def K mg "whole_lead" ["whole"] A3v f2 fd2) (dD:FnOk P w K mg base (CX1 P w) 3 f2 fd2 ["whole"] B9z):FnOk P w K mg base (CX1 P w) 4 f fd ["whole"] J7w:=by
 refine FnOk.up (D.F.ok scWRoot (fun vs H Q E h=>?_) (fun cdv A outer s H vs Q E hr h=>?_))
 . obtain⟨n,rfl,_⟩:=h
   rfl
 . obtain ⟨n,rfl,n2,k⟩:=h
   have hx:G5 (A0a CX0 P w K mg base ["whole","guess","better"] "whole_root" (A2 A7y) f cdv A outer s H E).nox EKF:=U2
   refine⟨_,(A4 (G6 (C4 G4 (pv 0) A3 (B5 _)) (A6 (B3 A3)) C6)
     (A4 (C5 (i:=1) scWRoot.nd rfl (Or.inl rfl) (C8 dA dB hr hx (A0 (A7 D9 (A7 D5 (C8 dC dD hr hx (A0 (pv 0) A5)) A3) A3) A5)))
     (A4 (C5 (i:=2) scWRoot.nd rfl (Or.inl rfl) (A7 D5 (A7 D9 (pv 1) (A7 D5 (pv 0) (pv 1))) A3))
     (A4 (A2d PassesOwn.never (C4 B9k (pv 2) (pv 1) (B5 _)) (A4 (C5 (i:=1) scWRoot.nd rfl (Or.inl rfl) (pv 2))
     (A6 (C5 (i:=2) scWRoot.nd rfl (Or.inl rfl) (A7 D5 (A7 D9 (pv 1) (A7 D5 (pv 0) (pv 1))) A3)))))
     (A6 (B3 (pv 1))))))),?_⟩
   have d2:(0:Int)<2/\(2:Int).natAbs.log2<9000:=⟨by decide,by decide+kernel⟩
   refine⟨_,rfl,rfl,_,rfl,V0 (fun h0=>?_) (fun h0=>?_)⟩
   . have e:n=0:=by
       have:(n:Int)=0:=by injection h0
       omega
     subst e
     exact k 0 (Nat.le_refl _) (by decide)
   . have n1 :1<=n:=by
       apply Classical.byContradiction
       intro z
       exact h0 (by rw[show n=0 by omega];rfl)
     have lg:∀{g:Nat},1<=g ->g<2^1000 ->0<(g:Int)/\(g:Int).natAbs.log2<9000:=fun h1 h2=>⟨by omega,Nat.lt_trans (V5 (k:=1000) (by rw[Int.natAbs_natCast];exact h2) (by decide)) (by decide)⟩
     refine⟨_,rfl,n,rfl,n1,Nat.lt_trans n2 (Nat.pow_lt_pow_right (by decide) (by decide)),fun L L1 L2=>?_⟩
     have l3:L<300:=(Nat.pow_lt_pow_iff_right (by decide:1<10)).mp (Nat.lt_of_le_of_lt L1 n2)
     refine⟨_,_,rfl,rfl,d2,_,_,rfl,rfl,L/2+1,rfl,by omega,?_⟩
     have g1:1<=10^(L/2+1):=Nat.pow_pos (by decide)
     have g2:10^(L/2+1)<2^1000:=Nat.lt_of_le_of_lt (Nat.pow_le_pow_right (by decide) (show L/2+1<=200 by omega)) (by decide+kernel)
     have g3:n<(10^(L/2+1)+1)*(10^(L/2+1)+1):=by
       have a:10^(L+1)<=10^(L/2+1)*10^(L/2+1):=by
         rw[<-Nat.pow_add]
         exact Nat.pow_le_pow_right (by decide) (by omega)
       have b:10^(L/2+1)*10^(L/2+1)<=(10^(L/2+1)+1)*(10^(L/2+1)+1):=Nat.mul_le_mul (Nat.le_succ _) (Nat.le_succ _)
       omega
     refine⟨_,rfl,_,rfl,_,rfl,_,_,rfl,rfl,lg g1 g2,_,_,rfl,rfl,_,_,rfl,rfl,d2,?_⟩
     refine A2q (fun σ H2=>H2=H/\∃g:Nat,1<=g/\g<2^1000/\n<(g+1)*(g+1)/\σ=[some (.int (n:Int)),some (.int (g:Int)),some (.int (((g+n/g)/2:Nat):Int))]) (fun σ _=>match σ with| [_,some (.int c),_]=>c.toNat|_=>0) ?_ ?_ ?_
     . exact⟨rfl,10^(L/2+1),g1,g2,g3,rfl⟩
     . rintro σ H2 ⟨rfl,g,g1,g2,g3,rfl⟩
       refine⟨_,rfl,_,rfl,_,_,rfl,rfl,_,rfl,V0 (fun hlt=>?_) (fun hge=>?_)⟩
       . have hlt:(g+n/g)/2<g:=Int.ofNat_lt.mp hlt
         have b1:1<=(g+n/g)/2:=by
           rcases(by omega:g=1\/2<=g) with rfl|h
           . rw[Nat.div_one];omega
           . clear hlt
             generalize n/g=d
             omega
         have b3:=Z1p (n:=n) g1
         generalize (g+n/g)/2=b at hlt b1 b3
         refine⟨_,rfl,_,rfl,_,rfl,_,rfl,_,_,rfl,rfl,lg b1 (Nat.lt_trans hlt g2),_,_,rfl,rfl,_,_,rfl,rfl,d2,⟨rfl,b,b1,Nat.lt_trans hlt g2,b3,rfl⟩,?_⟩
         show(b:Int).toNat<(g:Int).toNat
         omega
       . have hge:g<=(g+n/g)/2:=by
           have:¬((g+n/g)/2<g):=fun z=>hge (Int.ofNat_lt.mpr z)
           omega
         refine⟨_,rfl,k g ?_ g3⟩
         have:g<=n/g:=by omega
         exact(Nat.le_div_iff_mul_le (by omega)).mp this
     . rintro σ H2 Q1 Q2 hQ ⟨v,e,v2,e2,i,j,e3,e4,b,e5,q⟩
       exact⟨v,e,v2,e2,i,j,e3,e4,b,e5,hQ _ _ q⟩
end
noncomputable abbrev C1k:Stmt:=(D7 (top 7) 2)
noncomputable abbrev A2k:Stmt:=(D7 (top 7) 1)
theorem J6q{t:Int}(h:SzQ t):∃n:Nat,t=(n:Int)/\1<=n/\n<10^61:=by
 obtain⟨n,rfl⟩:=Int.eq_ofNat_of_zero_le (show 0<=t by have:=h.1;omega)
 have:=h.1;have:=h.2
 exact⟨n,rfl,by omega,by omega⟩
theorem Y6c{h m:Int}(hp:0<h):Y5 (2*h) m=1+(if decide (m<=4*h)=true then 1 else 0)+(if decide (m<4*h)=true then 1 else 0):=by
 unfold Y5
 rw[decide_eq_true (by omega:0<2*h),show 2*(2*h)=4*h by omega]
 rfl
theorem C9u{t L:Nat}{n f:Int}(t1:10^L<=t)(t2:t<10^(L+1))(e:f=((L:Int)+n)/2):A7t t (n-2*f):=by
 have hs:n-2*f= -(L:Int)\/n-2*f=1-(L:Int):=by omega
 have key:∀u v:Nat,(u=0/\(v=L\/v+1=L))\/(u=1/\v=0/\L=0) ->10^v<=t*10^u/\t*10^u<100*10^v:=by
   rintro u v (⟨rfl,rfl|rfl⟩|⟨rfl,rfl,rfl⟩)
   . rw[Nat.pow_succ] at t2
     omega
   . rw[Nat.pow_succ] at t1
     rw[Nat.pow_succ,Nat.pow_succ] at t2
     omega
   . simp at t1 t2 ⊢
     omega
 have:=key (n-2*f).toNat (-(n-2*f)).toNat (by
   rcases hs with e|e
   . rw[e]
     exact .inl ⟨Int.toNat_of_nonpos (by omega),.inl (by rw[Int.neg_neg];exact Int.toNat_natCast L)⟩
   . rw[e]
     cases L with
     |zero=>exact .inr ⟨rfl,rfl,rfl⟩
     |succ j=>exact .inl ⟨Int.toNat_of_nonpos (by omega),.inr (by rw[show -(1-((j+1:Nat):Int))=(j:Int) by omega,Int.toNat_natCast])⟩)
 unfold A7t A1
 exact⟨Int.ofNat_le.mpr this.1,Int.ofNat_lt.mpr this.2⟩
section
variable{P:Program}{w:World}{K:Frag}{mg:Str ->Option Value}{base:Heap}
theorem U7c:FnScope ["self"] ["self"] (A2 A2k):=scK
theorem U0e{f f1 CR CE:Addr}(F:Fun K "first" "Root.first" A2k f fd)(dA:Def K mg "whole_lead" ["whole"] A3v f1 fd1)(dB:FnOk P w K mg base (CX1 P w) 3 f1 fd1 ["whole"] B9z)(R:RooC K mg CR CE):FnOk P w K mg base (CX1 P w) 4 f fd ["self"] (A8e CR):=by
 refine FnOk.up (F.ok U7c (fun vs H Q E h=>?_) (fun cdv A outer s H vs Q E hr h=>?_))
 . obtain⟨x,t,n,rfl,_⟩:=h
   rfl
 . obtain⟨x,t,n,rfl,ra,ht,_,_,k⟩:=h
   have hx:G5 (A0a CX0 P w K mg base ["self"] "Root.first" (A2 A2k) f cdv A outer s H E).nox EKF:=U2
   refine⟨_,(A6 (B3 (A7 D5 (A7 D9 (C8 dA dB hr hx (A0 (G3 (pv 0) rfl) A5)) (G3 (pv 0) rfl)) A3))),?_⟩
   obtain⟨tn,rfl,ta,tb⟩:=J6q ht
   obtain⟨dx,e⟩:=id ra
   have d2:(0:Int)<2/\(2:Int).natAbs.log2<9000:=⟨by decide,by decide+kernel⟩
   refine⟨_,rfl,x,CR,dx,_,_,rfl,e,R.cl,R.n_top,J6j _ _,tn,rfl,ta,Nat.lt_trans tb (Nat.pow_lt_pow_right (by decide) (by decide)),fun L L1 L2=>?_⟩
   exact⟨_,rfl,x,CR,dx,_,_,rfl,e,R.cl,R.n_power,D0h _ _,_,_,rfl,rfl,_,_,rfl,rfl,d2,k _ H (Same.refl H) (C9u L1 L2 rfl)⟩
theorem scQAt:FnScope ["self","power","shift","top","bottom","whole"] ["self","power"] (A2 C1k):=scK
theorem Z0m{f f1 f2 f3 CR CE:Addr}(F:Fun K "at" "Root.at" C1k f fd)(dA:Def K mg "ten_to" ["count"] A0d f1 fd1)(dB:FnOk P w K mg base (CX1 P w) 2 f1 fd1 ["count"] A5a)
   (dC:Def K mg "part_of" ["size","middle"] A3e f2 fd2) (dD:FnOk P w K mg base (CX1 P w) 1 f2 fd2 ["size","middle"] C0v) (dE:Def K mg "whole_root" ["whole"] A7y f3 fd3) (dF:FnOk P w K mg base (CX1 P w) 4 f3 fd3 ["whole"] J7w) (R:RooC K mg CR CE) (O:Own mg):FnOk P w K mg base (CX1 P w) 5 f fd ["self","power"] (G2y CR):=by
 refine FnOk.up (F.ok scQAt (fun vs H Q E h=>?_) (fun cdv A outer s H vs Q E hr h=>?_))
 . obtain⟨x,t,n,p,rfl,_⟩:=h
   rfl
 . obtain⟨x,t,n,p,rfl,⟨dx,e⟩,ht,h1,h2,k⟩:=h
   have hx:G5 (A0a CX0 P w K mg base ["self","power","shift","top","bottom","whole"] "Root.at" (A2 C1k) f cdv A outer s H E).nox EKF:=U2
   refine⟨_,(A4 (C5 (i:=2) scQAt.nd rfl (Or.inl rfl) (A7 G9 (G3 (pv 0) rfl) (A7 D6 A3 (pv 1))))
     (A4 (C5 (i:=3) scQAt.nd rfl (Or.inl rfl) (A7 D6 (G3 (pv 0) rfl) (C8 dA dB hr hx (A0 (J2 (V1 rfl) (by rfl) O.max_ boot_max (A0 (pv 2) (A0 A3 A5))) A5))))
     (A4 (C5 (i:=4) scQAt.nd rfl (Or.inl rfl) (C8 dA dB hr hx (A0 (J2 (V1 rfl) (by rfl) O.max_ boot_max (A0 (D0u B5s (pv 2)) (A0 A3 A5))) A5)))
     (A4 (C5 (i:=5) scQAt.nd rfl (Or.inl rfl) (C8 dE dF hr hx (A0 (A7 D5 (pv 3) (pv 4)) A5)))
     (A4 (G6 (C4 G4 (A7 D6 (A7 D6 (pv 5) (pv 5)) (pv 4)) (pv 3) (B5 _)) (A6 (B3 (Y1 (A0 (pv 5) (A0 A3 A5))))) C6)
     (A6 (B3 (Y1 (A0 (pv 5) (A0 (C8 dC dD hr hx (A0 (A7 D6 A3 (pv 3)) (A0 (A7 D6 (A7 D6 (A7 D9 (A7 D6 A3 (pv 5)) A3) (A7 D9 (A7 D6 A3 (pv 5)) A3)) (pv 4)) A5))) A5)))))))))),?_⟩
   have z2:2<=sizeLine:=C7 (by decide)
   have mC':∀z n:Int, -(2^64)<n ->n<2^64 ->IntMulOk n z:=fun z n a b=>CMul.ok (.inl ⟨a,b⟩)
   have oT:IntMulOk t (A1 (n-2*p)):=U8 (Nat.lt_of_lt_of_le ht.small (C0y (by decide))) (Nat.lt_of_lt_of_le (A2f h2) (C0y (by decide)))
   refine⟨_,rfl,x,CR,dx,_,_,rfl,e,R.cl,R.n_power,D0h _ _,_,rfl,_,_,rfl,rfl,mC' _ _ (by decide) (by decide),_,_,rfl,rfl,?_⟩
   refine⟨_,rfl,x,CR,dx,_,_,rfl,e,R.cl,R.n_top,J6j _ _,_,rfl,_,_,rfl,(n-2*p).toNat,congrArg (fun z=>[V.int z]) (U8u (n-2*p)),by omega,_,_,rfl,rfl,oT,?_⟩
   refine⟨_,rfl,_,rfl,_,_,rfl,(-(n-2*p)).toNat,congrArg (fun z=>[V.int z]) (U8u (-(n-2*p))),by omega,?_⟩
   have lp:0<A1 (-(n-2*p)):=B8 _
   have ll:(A1 (-(n-2*p))).natAbs.log2<9000:=Nat.lt_trans (V5 (A2f (by omega)) (by decide)) (by decide)
   have hp:0<t*A1 (n-2*p):=Int.mul_pos (by have:=ht.1;omega) (B8 _)
   have hs:=G2f ht h2
   obtain⟨hi,ehi⟩:=Int.eq_ofNat_of_zero_le (Int.le_of_lt hp)
   obtain⟨lo,elo⟩:=Int.eq_ofNat_of_zero_le (Int.le_of_lt lp)
   have b300:hi/lo<10^300:=by
     have a:hi<2^903:=by rw[ehi,Int.natAbs_natCast] at hs;exact hs
     exact Nat.lt_of_le_of_lt (Nat.div_le_self _ _) (Nat.lt_trans a (by decide+kernel))
   refine⟨_,rfl,_,rfl,_,_,rfl,rfl,⟨lp,ll⟩,hi/lo,(by show [V.int (t*A1 (n-2*p)/A1 (-(n-2*p)))]=_;rw[ehi,elo];rfl),b300,fun r r1 r2=>?_⟩
   have lo0:0<lo:=by omega
   have rt:A1e t (n-2*p) (r:Int):=by
     refine⟨by omega,?_,?_⟩
     . rw[ehi,elo]
       have:=(Nat.le_div_iff_mul_le lo0).mp r1
       exact Int.ofNat_le.mpr this
     . rw[ehi,elo]
       have:=(Nat.div_lt_iff_lt_mul lo0).mp r2
       exact Int.ofNat_lt.mpr this
   have m:=Y4c ht h1 h2 rt
   refine⟨_,rfl,_,rfl,_,_,rfl,rfl,m.o2,_,rfl,_,_,rfl,rfl,m.o3,_,rfl,rfl,_,rfl,V0 (fun he=>?_) (fun hn=>?_)⟩
   . have he:(r:Int)*r*A1 (-(n-2*p))=t*A1 (n-2*p):=by injection he
     refine⟨_,rfl,z2,fun q nq=>k r q _ (Same.upd nq) nq rt ?_⟩
     rw[A8]
     unfold G6t
     rw[if_pos he]
   . have hn:¬(r:Int)*r*A1 (-(n-2*p))=t*A1 (n-2*p):=fun z=>hn (congrArg V.int z)
     have m0:0<(2*(r:Int)+1)*(2*(r:Int)+1)*A1 (-(n-2*p)):=Int.mul_pos (Int.mul_pos (by omega) (by omega)) lp
     refine⟨_,rfl,_,rfl,_,_,rfl,rfl,mC' _ _ (by decide) (by decide),_,rfl,_,_,rfl,rfl,mC' _ _ (by decide) (by decide),_,_,rfl,rfl,_,rfl,_,_,rfl,rfl,mC' _ _ (by decide) (by decide),_,_,rfl,rfl,_,_,rfl,rfl,m.o6,_,rfl,_,_,rfl,rfl,m.o7,2*(t*A1 (n-2*p)),(2*(r:Int)+1)*(2*(r:Int)+1)*A1 (-(n-2*p)),?_,by omega,m0,z2,fun q nq=>k r q _ (Same.upd nq) nq rt ?_⟩
     . show [V.int (4*(t*A1 (n-2*p))),_]=[V.int (2*(2*(t*A1 (n-2*p)))),_]
       rw[show 2*(2*(t*A1 (n-2*p)))=4*(t*A1 (n-2*p)) by omega]
       rfl
     . rw[A8,Y6c hp]
       unfold G6t
       rw[if_neg hn]
end
theorem J6t:∀n:Nat,∃r:Nat,r*r<=n/\n<(r+1)*(r+1)
 |0=>⟨0,by decide,by decide⟩
 | n + 1=>by
   obtain⟨r,h1,h2⟩:=J6t n
   by_cases h:n+1<(r+1)*(r+1)
   . exact⟨r,by omega,h⟩
   . refine⟨r+1,by omega,?_⟩
     have:(r+1+1)*(r+1+1)=(r+1)*(r+1)+2*(r+1)+1:=by
       simp only[Nat.add_mul,Nat.mul_add]
       omega
     omega
theorem Y5r{t s:Int}(ht:1<=t):∃w,A1e t s w:=by
 obtain⟨hi,ehi⟩:=Int.eq_ofNat_of_zero_le (Int.le_of_lt (Int.mul_pos (show 0<t by omega) (B8 s)))
 obtain⟨lo,elo⟩:=Int.eq_ofNat_of_zero_le (Int.le_of_lt (B8 (-s)))
 have lo0:0<lo:=by have:=B8 (-s);omega
 obtain⟨r,r1,r2⟩:=J6t (hi/lo)
 refine⟨r,by omega,?_,?_⟩
 . rw[ehi,elo]
   exact Int.ofNat_le.mpr ((Nat.le_div_iff_mul_le lo0).mp r1)
 . rw[ehi,elo]
   exact Int.ofNat_lt.mpr ((Nat.div_lt_iff_lt_mul lo0).mp r2)
noncomputable def whQ (t s:Int):Int:=by
 classical exact if h:∃w,A1e t s w then Classical.choose h else 0
theorem B4n{t s:Int}(ht:1<=t):A1e t s (whQ t s):=by
 have h:=Y5r (s:=s) ht
 unfold whQ
 rw[dif_pos h]
 exact Classical.choose_spec h
theorem Y9z{t s w:Int}(ht:1<=t)(h:A1e t s w):whQ t s=w:=Y4u (B4n ht) h
noncomputable def rooE (CR:Addr) (t n L:Int):Exa:=⟨fun H x=>RooAt CR H x t n,L,fun q=>whQ t (n-2*q),fun q=>G6t t (n-2*q) (whQ t (n-2*q)),fun q=> -200<=n-2*q/\n-2*q<=200⟩
theorem rooV{CR:Addr}{t n L:Int}(ht:SzQ t)(n1: -900<=n)(n2:n<=900)(hL:A7t t (n-2*L)):ExV CR (A8e CR) (G2y CR) (rooE CR t n L) where
 same:=fun _ _ _ h s=>RooAt.same h s
 ins:=fun _ _ h=>by
   obtain⟨dx,e⟩:=h
   exact⟨dx,_,e,D2h _ _,U0v _ _⟩
 first:=fun H x Q E h k=>⟨x,t,n,rfl,h,ht,n1,n2,fun f H' s ld=>by
   have ef:f=L:=U7g (show 0<t by have:=ht.1;omega) ld hL
   rw[ef]
   exact k H' s⟩
 at_:=fun H x q Q E h ok k=>⟨x,t,n,q,rfl,h,ht,ok.1,ok.2,fun wh p H' s np rt ep=>by
   have e:=Y9z ht.1 rt
   refine k p H' s np ?_
   show H' p=some (.tup [.int (whQ t (n-2*q)),.int (G6t t (n-2*q) (whQ t (n-2*q)))])
   rw[e]
   exact ep⟩
section
variable{P:Program}{w:World}{K:Frag}{mg:Str ->Option Value}{base:Heap}
theorem rooM{CR CE g1 g2:Addr}(RM:RooM P w K mg base CR g1 g2 gd1 gd2)(R:RooC K mg CR CE):ExM P w K mg base CR g1 g2 gd1 gd2 (A8e CR) (G2y CR):=⟨R.cl,RM.m1,RM.g1,RM.b1,RM.m2,RM.g2,RM.b2⟩
end
section
variable{P:Program}{w:World}{K:Frag}{mg:Str ->Option Value}{base:Heap}
end
section
variable{P:Program}{w:World}{K:Frag}{mg:Str ->Option Value}{base:Heap}
theorem U6n{v:Cv}{L n:Int}(ok:v.Ok)(h1: -1000<=n-L)(h2:n-L<=1000)(n1: -400<=n)(n2:n<=400): -1500<=n-v.fin L/\n-v.fin L<=1500:=by
 have:=ok.r1;have:=ok.r2;have:=ok.l1;have:=ok.l2
 unfold Cv.fin B2b
 split<;>omega
theorem G8c{t b s:Int}(ht:Sz t)(hb:Sz b)(h:A1j t b s): -1000<=s/\s<=1000:=by
 have e:=B8 1000
 refine⟨?_,?_⟩
 . apply Classical.byContradiction
   intro hs
   have z:A1 s=1:=by unfold A1;rw[show s.toNat=0 by omega];rfl
   have g:A1 1000<=A1 (-s):=D8 (by omega)
   have a:=h.1
   rw[z,Int.mul_one] at a
   have:1*A1 (-s)<=b*A1 (-s):=Int.mul_le_mul_of_nonneg_right hb.1 (Int.le_of_lt (B8 _))
   have:=ht.2
   omega
 . apply Classical.byContradiction
   intro hs
   have z:A1 (-s)=1:=by unfold A1;rw[show(-s).toNat=0 by omega];rfl
   have g:A1 1001<=A1 s:=D8 (by omega)
   have e1:A1 1001=10*A1 1000:=by
     unfold A1
     rw[show(1001:Int).toNat=(1000:Int).toNat+1 by decide,Nat.pow_succ,Nat.mul_comm]
     rfl
   have a:=h.2
   rw[z,Int.mul_one] at a
   have:1*A1 s<=t*A1 s:=Int.mul_le_mul_of_nonneg_right ht.1 (Int.le_of_lt (B8 _))
   have:=hb.2
   omega
theorem U7q:Sz 1:=⟨by decide,by
 have:A1 1<=A1 1000:=D8 (by decide)
 have e:A1 1=10:=rfl
 omega⟩
theorem Y9p{f:Int}(h0:0<=f)(h:f≠0)(h1:f<=10^60-1):Sz f:=by
 refine⟨by omega,?_⟩
 have:A1 60<=A1 1000:=D8 (by decide)
 have e:A1 60=10^60:=by decide+kernel
 omega
end
theorem Ends2.same{CN CC CT:Addr}{H H1:Hp}{c:Addr}{v:Cv}{b:Addr}{xs ys:List Str}{res:Nm×List Str}{Q:VK}{E:XK}(k:Ends2 CN CC CT H c v b xs ys res Q E)(s:Same H H1):Ends2 CN CC CT H1 c v b xs ys res Q E:=
 ⟨fun hn m a' H' x=>k.1 hn m a' H' ((Exc.of s).trans x),fun z hz a' d H' x=>k.2 z hz a' d H' ((Exc.of s).trans x)⟩
theorem Y4h(tr:List Str):hit tr []=none:=by
 unfold hit
 rw[List.find?_eq_none]
 simp
theorem Ends2.calm{CN CC CT:Addr}{H H1:Hp}{c n a:Addr}{v:Cv}{b:Addr}{xs ys:List Str}{x:Nm}{Q:VK}{E:XK}(k:Ends2 CN CC CT H c v b xs ys (x,[]) Q E)(ox:A1d xs=xs)(s:Same H H1)(hc:CtxV CC H c v a b xs ys)(hn:NumIs CN H1 n x):Q (.ref n) H1:=
 k.1 (Y4h _) n a H1 (Exc.of s) (by show CtxV CC H1 c v a b (A1d (xs++ [])) ys;rw[List.append_nil,ox];exact hc.same s) hn
deriving instance DecidableEq for Kd
theorem B4v(n:Nat)(h:1<=n):∃L:Nat,10^L<=n/\n<10^(L+1):=by
 induction n using Nat.strongRecOn with
 | ind n ih=>
   by_cases h10:n<10
   . exact⟨0,by simpa using h,by simpa using h10⟩
   . obtain⟨L,a,b⟩:=ih (n/10) (by omega) (by omega)
     refine⟨L+1,?_,?_⟩
     . rw[Nat.pow_succ];omega
     . rw[Nat.pow_succ];omega
theorem B1p{n j:Nat}(h1:n<10^(j+1))(h2:10^j<=n):G8 (n:Int)=(j:Int)+1:=by
 unfold G8
 have e:(Str.ofString (toString (n:Int))).length=(Nat.toDigits 10 n).length:=by
   have:=congrArg List.length (KIN.signs_num n)
   rw[List.length_map] at this
   rw[<-this];rfl
 rw[e]
 have a:(Nat.toDigits 10 n).length<=j+1:=digits10_le (by omega) h1
 have b:j+1<=(Nat.toDigits 10 n).length:=digits10_ge h2
 omega
theorem Z6h{c A B:Prop} [Decidable c] (h:¬c) (a:A):if(!decide c)=true then A else B:=by rw[decide_eq_false h];exact V2 a
noncomputable def SzL (t:Int):Prop:=1<=t/\t<A1 500
theorem SzL.nat{t:Int}(h:SzL t):∃n:Nat,t=(n:Int)/\1<=n/\n<10^500:=by
 obtain⟨n,rfl⟩:=Int.eq_ofNat_of_zero_le (show 0<=t by have:=h.1;omega)
 exact⟨n,rfl,Int.ofNat_le.mp h.1,Int.ofNat_lt.mp h.2⟩
theorem SzL.sz{t:Int}(h:SzL t):Sz t:=⟨h.1,Int.lt_of_lt_of_le h.2 (D8 (by decide))⟩
theorem SzL.log{t:Int}(h:SzL t):t.natAbs.log2<1920:=by
 obtain⟨n,rfl,_,hn⟩:=h.nat
 have:n<2^1670:=Nat.lt_of_lt_of_le (Nat.lt_of_lt_of_le hn (Nat.pow_le_pow_right (by decide) (by decide:500<=3*167))) (G2c 167)
 exact Nat.lt_trans (V5 (i:=(n:Int)) (k:=1670) (by rw[Int.natAbs_natCast];exact this) (by decide)) (by decide)
noncomputable def G3n (CN CC CT:Addr):Sp:=fun vs H Q E=>∃c v a b xs ys n x,∃L:Int,vs=[.ref c,.ref n]/\CtxV CC H c v a b xs ys/\v.Ok/\xs.length<=900/\A1d xs=xs/\NumIs CN H n x/\0<=x.s/\x.s<=1/\0<=x.f/\x.f<A1 500/\ -200<=x.p/\x.p<=200/\(x.k= .plain ->x.f≠0 ->A1j x.f 1 (x.p-L))/\Ends2 CN CC CT H c v b xs ys (B5v v x L) Q E
section
variable{P:Program}{w:World}{K:Frag}{mg:Str ->Option Value}{base:Heap}
theorem U0u:FnScope ["context","number"] ["context","number"] (A2 A2p):=scK
theorem U0r{f f1 f2 f3 fI CN CC CB CB' CT CW CR CE:Addr}{cw:Wy ->Addr}{fd fd1 fd2 fd3 fdI:FuncData}{d0:Value}{gP:List Value ->List Value ->List Value}{vP:List V ->List V ->List V}(D:Def K mg "rounded" ["context","number"] A2p f fd)
   (dA:Def K mg "need_number" ["thing"] A8f f1 fd1) (dB:FnOk P w K mg base (CX1 P w) 1 f1 fd1 ["thing"] (J7a K CN CB')) (dC:Def K mg "nought" ["context","sign","ideal"] A3d f2 fd2) (dD:FnOk P w K mg base (CX1 P w) 3 f2 fd2 ["context","sign","ideal"] (G3e CN CC))
   (dE:Def K mg "settled" ["context","sign","exact","ideal"] A0p f3 fd3) (dF:FnOk P w K mg base (CX1 P w) 6 f3 fd3 ["context","sign","exact","ideal"] (B5x CN CC CT CR)) (MR:MakeR P w K mg base CR fI fdI d0 gP vP) (R:RatC K mg CR CE) (N:Num K mg CN):
   FnOk P w K mg base (CX1 P w) 7 f fd ["context","number"] (G3n CN CC CT):=by
 refine D.F.okE U0u (fun vs H Q E h=>?_) (fun X cdv A outer s H vs Q E hX hr hx h=>?_)
 . obtain⟨c,v,a,b,xs,ys,n,x,L,rfl,_⟩:=h
   rfl
 . subst hX
   obtain⟨c,v,a,b,xs,ys,n,x,L,rfl,hc,ok,lx,ox,num,s0,s1,f0,f1,p0,p1,hL,k⟩:=h
   refine⟨_,(A4 (A2y (C8 dA dB hr hx (A0 (pv 1) A5)))
     (A4 (G6 (C4 B2g (G3 (pv 1) rfl) B9 (B5 _)) (A6 (B3 (pv 1))) C6)
     (A4 (G6 (C4 G4 (G3 (pv 1) rfl) A3 (B5 _)) (A6 (B3 (C8 dC dD hr hx (A0 (pv 0) (A0 (G3 (pv 1) rfl) (A0 (G3 (pv 1) rfl) A5)))))) C6)
     (A6 (B3 (C8 dE dF hr hx (A0 (pv 0) (A0 (G3 (pv 1) rfl) (A0 (B2m MR.m MR.g hr R.g MR.b3 .nil hx (A0 (G3 (pv 1) rfl) (A0 A3 (A0 (G3 (pv 1) rfl) A5)))) (A0 (G3 (pv 1) rfl) A5)))))))))),?_⟩
   obtain⟨dn,en⟩:=id num
   refine⟨_,rfl,_,rfl,Or.inl ⟨n,_,_,_,_,rfl,num,?_⟩⟩
   refine⟨_,rfl,n,CN,dn,_,_,rfl,en,N.cl,N.n1,Z6z _ _ _ _,rfl,_,rfl,?_⟩
   by_cases hk:x.k= .plain
   . have eR:B5v v x L=if x.f=0 then(⟨.plain,x.s,0,A1m (B2b x.p (v.l-v.r+1)) v.m⟩,[]) else B4u v x.s x.f 1 x.p L x.p:=by unfold B5v;rw[hk]
     rw[eR] at k
     refine G2g (by rw[hk];rfl) ⟨_,rfl,n,CN,dn,_,_,rfl,en,N.cl,N.n3,U6u _ _ _ _,rfl,_,rfl,V0 (fun hf=>?_) (fun hf=>?_)⟩
     . have hf:x.f=0:=V.int.inj hf
       rw[if_pos hf] at k
       exact⟨_,rfl,_,rfl,n,CN,dn,_,_,rfl,en,N.cl,N.n2,U6m _ _ _ _,_,rfl,n,CN,dn,_,_,rfl,en,N.cl,N.n4,J9u _ _ _ _,c,v,a,b,xs,ys,x.s,x.p,rfl,hc,fun n' H' nn s' num'=>k.calm ox s' hc num'⟩
     . have hf:¬x.f=0:=fun z=>hf (congrArg V.int z)
       rw[if_neg hf] at k
       have zl:SzL x.f:=⟨by omega,f1⟩
       have z1:Sz x.f:=zl.sz
       have hl:=hL hk hf
       have ls:=G8c z1 U7q hl
       have fn:=U6n (v:=v) ok ls.1 ls.2 (by omega) (by omega)
       refine⟨_,rfl,_,rfl,n,CN,dn,_,_,rfl,en,N.cl,N.n2,U6m _ _ _ _,_,rfl,n,CN,dn,_,_,rfl,en,N.cl,N.n3,U6u _ _ _ _,_,rfl,n,CN,dn,_,_,rfl,en,N.cl,N.n4,J9u _ _ _ _,fun r dr m1 m2 me=>Y8r m1 m2 me fun H1 s1' ra=>⟨rfl,?_⟩⟩
       obtain⟨dn1,en1⟩:=num.same s1'
       exact⟨_,rfl,n,CN,dn1,_,_,rfl,en1,N.cl,N.n4,J9u _ _ _ _,c,v,a,b,xs,ys,r,x.f,1,x.p,L,x.s,x.p,rfl,hc.same s1',ok,lx,ra,z1,U7q,hl,fn.1,fn.2,s0,s1,k.same s1'⟩
   . have eR:B5v v x L=(x,[]):=by
       unfold B5v
       cases hx:x.k with
       |plain=>exact absurd hx hk
       |end_=>rfl
       |none=>rfl
     rw[eR] at k
     exact Z6h (fun z=>hk (eqS (b:= .plain) z)) ⟨_,rfl,k.calm ox (Same.refl _) hc num⟩
end
noncomputable abbrev C2e:Stmt:=(top 55)
section
variable{P:Program}{w:World}{K:Frag}{mg:Str ->Option Value}{base:Heap}
noncomputable def U9t (K:Frag):Sp:=fun vs H Q _=>∃a ns k,vs=[.ref a,.int k]/\SqL K H a ((ns:List Int).map V.int)/\0<=k/\∀i,Q (.int i) H
theorem Z0d:FnScope ["_law_script","_law_k"] ["_law_script","_law_k"] (A2 C2e):=scK
theorem Y6d(D:Def K mg "_law_cell_at" ["_law_script","_law_k"] C2e f fd)(O:Own mg):FnOk P w K mg base (CX1 P w) 1 f fd ["_law_script","_law_k"] (U9t K):=by
 refine FnOk.up (D.F.ok Z0d (fun vs H Q E h=>?_) (fun cdv A outer s H vs Q E hr h=>?_))
 . obtain⟨a,ns,k,rfl,_⟩:=h
   rfl
 . obtain⟨a,ns,i,rfl,hs,h0,k⟩:=h
   refine⟨_,(A4 (G6 (C4 B9k (pv 1) (J2 D3a (by rfl) O.len_ PySem.boot_len (A0 (pv 0) A5)) (B5 _)) (A6 (B3 (G7 A4s (pv 0) (pv 1) (fun _ _=>rfl)))) C6)
     (A6 (B3 A3))),?_⟩
   refine⟨_,rfl,_,rfl,a,_,rfl,.inl hs,_,_,rfl,rfl,_,rfl,?_⟩
   refine V0 (fun hlt=>?_) (fun _=>k 0)
   rw[List.length_map] at hlt
   obtain⟨j,rfl⟩:=Int.eq_ofNat_of_zero_le h0
   have hj:j<ns.length:=by omega
   exact⟨_,rfl,_,rfl,a,_,_,_,rfl,rfl,hs,C0 (v:=V.int ns[j]) (by simp[hj]),k _⟩
end
noncomputable abbrev A8d:Stmt:=(top 56)
section
variable{P:Program}{w:World}{K:Frag}{mg:Str ->Option Value}{base:Heap}
noncomputable def D2n:Sp:=fun vs H Q _=>∃c k,vs=[.int c,.int k]/\0<=k/\k<=100/\∀m,0<=m ->m<2147483629 ->Q (.int m) H
theorem Y4m:FnScope ["_law_cell","_law_k"] ["_law_cell","_law_k"] (A2 A8d):=scK
theorem U9k(D:Def K mg "_law_mixed" ["_law_cell","_law_k"] A8d f fd):FnOk P w K mg base (CX1 P w) 1 f fd ["_law_cell","_law_k"] D2n:=by
 refine FnOk.up (D.F.ok Y4m (fun vs H Q E h=>?_) (fun cdv A outer s H vs Q E hr h=>?_))
 . obtain⟨c,k,rfl,_⟩:=h
   rfl
 . obtain⟨c,i,rfl,h0,h1,k⟩:=h
   refine⟨_,(A6 (B3 (A7 J1 (A7 D6 (A7 J1 (A7 D9 (A7 D9 (A7 D6 (pv 0) (A7 D9 A3 (A7 D6 (A7 D6 A3 (pv 1)) (pv 1)))) (A7 D6 A3 (pv 1))) A3) A3) A3) A3))),?_⟩
   have q0:(0:Int)<=2*i*i:=Int.mul_nonneg (by omega) h0
   have q1:2*i*i<=200*100:=Int.mul_le_mul (by omega) h1 h0 (by decide)
   have m1:IntMulOk 2 i:=CMul.ok (.inl ⟨by decide,by decide⟩)
   have m2:IntMulOk (2*i) i:=CMul.ok (.inr ⟨by omega,by omega⟩)
   have m3:IntMulOk c (48271+2*i*i):=CMul.ok (.inr ⟨by omega,by omega⟩)
   have m4:IntMulOk 69621 i:=CMul.ok (.inl ⟨by decide,by decide⟩)
   have m5:∀z:Int,IntMulOk z 69621:=fun z=>CMul.ok (.inr ⟨by decide,by decide⟩)
   refine⟨_,rfl,_,rfl,_,_,rfl,rfl,m1,_,rfl,_,_,rfl,rfl,m2,_,_,rfl,rfl,_,_,rfl,rfl,m3,_,rfl,_,_,rfl,rfl,m4,_,_,rfl,rfl,_,_,rfl,rfl,_,_,rfl,rfl,(by show(0:Int)<2147483647;decide),_,_,rfl,rfl,m5 _,_,_,rfl,rfl,(by show(0:Int)<2147483629;decide),?_⟩
   exact k _ (Int.emod_nonneg _ (by decide)) (Int.emod_lt_of_pos _ (by decide))
end
noncomputable abbrev B2f:Stmt:=(top 60)
section
variable{P:Program}{w:World}{K:Frag}{mg:Str ->Option Value}{base:Heap}
noncomputable def C1u:Sp:=fun vs H Q _=>∃n:Nat,vs=[.int (n:Int)]/\n<=600/\Q (.int ((10^n:Nat):Int)) H
theorem Y9s:FnScope ["_law_count"] ["_law_count"] (A2 B2f):=scK
theorem Y5c(D:Def K mg "_law_ten" ["_law_count"] B2f f fd)(O:Own mg):FnOk P w K mg base (CX1 P w) 1 f fd ["_law_count"] C1u:=by
 refine FnOk.up (D.F.ok Y9s (fun vs H Q E h=>?_) (fun cdv A outer s H vs Q E hr h=>?_))
 . obtain⟨n,rfl,_⟩:=h
   rfl
 . obtain⟨n,rfl,hn,k⟩:=h
   refine⟨_,(A6 (B3 (J8 C6p (by rfl) O.int_ boot_int (A0 (A7 G7x B9 (A7 G8m B9 (pv 0))) A5)))),?_⟩
   have l1:("1":Str).length=1:=by decide+kernel
   have l0:("0":Str).length=1:=by decide+kernel
   refine⟨_,rfl,_,_,rfl,rfl,by omega,by omega,C7 (by rw[l0];omega),_,_,rfl,rfl,C7 (by rw[C1z,l0,l1];omega),?_⟩
   exact⟨U0w n,_,rfl,U9v n hn,by rw[G1x];omega,k⟩
end
noncomputable abbrev B2x:Stmt:=(top 58)
noncomputable abbrev A5c:Stmt:=(top 59)
theorem G6z(n:Nat):∃j:Nat,(Nat.toDigits 10 n).length=j+1/\(Nat.toDigits 10 n)[j]?=some (Nat.digitChar (n % 10)):=by
 by_cases h:n<10
 . rw[Nat.toDigits_of_lt_base h]
   exact⟨0,rfl,by rw[Nat.mod_eq_of_lt h];rfl⟩
 . rw[Nat.toDigits_of_base_le (by decide) (by omega)]
   exact⟨(Nat.toDigits 10 (n/10)).length,by simp,by simp⟩
theorem Y4t(n:Nat):atI (Str.ofString (toString (n:Int))).cps.toList (-1)=some (Nat.digitChar (n % 10)).toNat:=by
 obtain⟨j,hl,hj⟩:=G6z n
 rw[KIN.signs_num]
 unfold atI ixN
 rw[List.length_map,hl,if_neg (by decide),if_pos (by omega)]
 show((Nat.toDigits 10 n).map Char.toNat)[((-1:Int)+((j+1:Nat):Int)).toNat]?=_
 rw[show((-1:Int)+((j+1:Nat):Int)).toNat=j by omega,List.getElem?_map,hj]
 rfl
theorem Z9v(d:Nat)(h:d<10):(!(Builtin.Str.occurrences ("05":Str) ⟨#[(Nat.digitChar d).toNat]⟩ 0 ("05":Str).length 1).isEmpty)=(d==0||d==5):=by
 rcases(by omega:d=0\/d=1\/d=2\/d=3\/d=4\/d=5\/d=6\/d=7\/d=8\/d=9) with rfl|rfl|rfl|rfl|rfl|rfl|rfl|rfl|rfl|rfl<;>decide+kernel
section
variable{P:Program}{w:World}{K:Frag}{mg:Str ->Option Value}{base:Heap}
noncomputable def Wy.code:Wy ->Nat
 | .down=>0
 | .up=>1
 | .floor=>2
 | .ceiling=>3
 | .halfUp=>4
 | .halfDown=>5
 | .halfEven=>6
 | .fiveUp=>7
theorem nW{y z:Wy}(h:y.code≠z.code):¬V.str y.name=V.str z.name:=fun q=>h (by rw[Wy.inj (V.str.inj q)])
theorem eqI(a b:Int):eqV (.int a) (.int b)=decide (b=a):=by
 show(a==b)=_
 by_cases h:a=b
 . subst h;simp
 . rw[decide_eq_false (Ne.symm h)];simpa using h
noncomputable def J6a:Sp:=fun vs H Q _=>∃(y:Wy) (s t:Int) (n:Nat),vs=[.str y.name,.int s,.int (n:Int),.int t]/\n<2^300/\1<=t/\t<=3/\∀H',Same H H' ->Q (.bl (y.goes s ((n:Int) % 10) t)) H'
theorem Y4k:FnScope ["_law_name","_law_sign","_law_near_here","_law_part"] ["_law_name","_law_sign","_law_near_here","_law_part"] (A2 B2x):=scK
theorem U9j(D:Def K mg "_law_goes_up" ["_law_name","_law_sign","_law_near_here","_law_part"] B2x f fd)(O:Own mg):FnOk P w K mg base (CX1 P w) 1 f fd ["_law_name","_law_sign","_law_near_here","_law_part"] J6a:=by
 refine FnOk.up (D.F.ok Y4k (fun vs H Q E h=>?_) (fun cdv A outer s H vs Q E hr h=>?_))
 . obtain⟨y,z,t,n,rfl,_⟩:=h
   rfl
 . obtain⟨y,z,t,n,rfl,hn,t1,t3,k⟩:=h
   refine⟨_,(A4 (G6 (C4 A4e (pv 0) (Y1 (A0 B9 (A0 B9 A5))) (by rfl)) (A6 (B3 (D3 G4 (pv 0) B9 (B5 _)))) C6)
     (A4 (G6 (C4 G4 (pv 0) B9 (B5 _)) (A6 (B3 (D3 G4 (pv 1) A3 (B5 _)))) C6)
     (A4 (G6 (C4 G4 (pv 0) B9 (B5 _)) (A6 (B3 (D3 G4 (pv 1) A3 (B5 _)))) C6)
     (A4 (G6 (C4 G4 (pv 0) B9 (B5 _)) (A6 (B3 (D3 J8z (G7 Z0x (J8 U3 (by rfl) O.str_ boot_str (A0 (pv 2) A5)) (D0u B5s A3) (fun _ _=>rfl)) B9 (by rfl)))) C6)
     (A4 (G6 (C4 B2g (pv 3) A3 (B5 _)) (A6 (B3 (D3 G4 (pv 3) A3 (B5 _)))) C6)
     (A6 (B3 (U8a (D3 G4 (pv 0) B9 (B5 _)) (Y7 (A2j (D3 G4 (pv 0) B9 (B5 _)) (Y7 (D3 G4 (A7 J1 (pv 2) A3) A3 (B5 _))))))))))))),?_⟩
   have z2:2<=sizeLine:=C7 (by decide)
   refine⟨_,rfl,z2,fun p np=>⟨p,_,rfl,.inr (SqT.of A8),rfl,rfl,_,rfl,?_⟩⟩
   have u:=Same.upd (o:= .tup [.str "down",.str "up"]) np
   have k:=k _ u
   generalize upd H p (.tup [.str "down",.str "up"])=H1 at u k
   have rest:∀b:Bool,y.goes z ((n:Int) % 10) t=b ->Q (.bl b) H1:=fun b e=>by rw[<-e];exact k
   cases y with
   | down=>
     show if(inV (.str (Wy.name .down)) [.str "down",.str "up"])=true then _ else _
     rw[show inV (.str (Wy.name .down)) [.str "down",.str "up"]=true by decide+kernel]
     exact V2 ⟨_,rfl,rfl,k⟩
   | up=>
     show if(inV (.str (Wy.name .up)) [.str "down",.str "up"])=true then _ else _
     rw[show inV (.str (Wy.name .up)) [.str "down",.str "up"]=true by decide+kernel]
     exact V2 ⟨_,rfl,rfl,k⟩
   | floor=>
     show if(inV (.str (Wy.name .floor)) [.str "down",.str "up"])=true then _ else _
     rw[show inV (.str (Wy.name .floor)) [.str "down",.str "up"]=false by decide+kernel]
     exact J4 ⟨_,rfl,rfl,_,rfl,U7 rfl ⟨_,rfl,rfl,k⟩⟩
   | ceiling=>
     show if(inV (.str (Wy.name .ceiling)) [.str "down",.str "up"])=true then _ else _
     rw[show inV (.str (Wy.name .ceiling)) [.str "down",.str "up"]=false by decide+kernel]
     exact J4 ⟨_,rfl,rfl,_,rfl,J7 (nW (y:= .ceiling) (z:= .floor) (by decide)) ⟨_,rfl,rfl,_,rfl,U7 rfl ⟨_,rfl,rfl,k⟩⟩⟩
   | halfUp=>
     show if(inV (.str (Wy.name .halfUp)) [.str "down",.str "up"])=true then _ else _
     rw[show inV (.str (Wy.name .halfUp)) [.str "down",.str "up"]=false by decide+kernel]
     refine J4 ⟨_,rfl,rfl,_,rfl,J7 (nW (y:= .halfUp) (z:= .floor) (by decide)) ⟨_,rfl,rfl,_,rfl,J7 (nW (y:= .halfUp) (z:= .ceiling) (by decide)) ⟨_,rfl,rfl,_,rfl,J7 (nW (y:= .halfUp) (z:= .fiveUp) (by decide)) ⟨_,rfl,rfl,_,rfl,?_⟩⟩⟩⟩
     by_cases e:t=2
     . rw[decide_eq_true (congrArg V.int e)]
       exact J4 ⟨_,rfl,rfl,_,rfl,U7 rfl (rest _ (by subst e;rfl))⟩
     . rw[decide_eq_false (fun q=>e (by injection q):¬V.int t=V.int 2)]
       refine V2 ⟨_,rfl,rfl,rest _ ?_⟩
       rcases(by omega:t=1\/t=3) with rfl|rfl<;>rfl
   | halfDown=>
     show if(inV (.str (Wy.name .halfDown)) [.str "down",.str "up"])=true then _ else _
     rw[show inV (.str (Wy.name .halfDown)) [.str "down",.str "up"]=false by decide+kernel]
     refine J4 ⟨_,rfl,rfl,_,rfl,J7 (nW (y:= .halfDown) (z:= .floor) (by decide)) ⟨_,rfl,rfl,_,rfl,J7 (nW (y:= .halfDown) (z:= .ceiling) (by decide)) ⟨_,rfl,rfl,_,rfl,J7 (nW (y:= .halfDown) (z:= .fiveUp) (by decide)) ⟨_,rfl,rfl,_,rfl,?_⟩⟩⟩⟩
     by_cases e:t=2
     . rw[decide_eq_true (congrArg V.int e)]
       exact J4 ⟨_,rfl,rfl,_,rfl,J7 (nW (y:= .halfDown) (z:= .halfUp) (by decide)) ⟨_,rfl,rfl,_,rfl,J7 (nW (y:= .halfDown) (z:= .halfEven) (by decide)) (rest _ (by subst e;rfl))⟩⟩
     . rw[decide_eq_false (fun q=>e (by injection q):¬V.int t=V.int 2)]
       refine V2 ⟨_,rfl,rfl,rest _ ?_⟩
       rcases(by omega:t=1\/t=3) with rfl|rfl<;>rfl
   | halfEven=>
     show if(inV (.str (Wy.name .halfEven)) [.str "down",.str "up"])=true then _ else _
     rw[show inV (.str (Wy.name .halfEven)) [.str "down",.str "up"]=false by decide+kernel]
     refine J4 ⟨_,rfl,rfl,_,rfl,J7 (nW (y:= .halfEven) (z:= .floor) (by decide)) ⟨_,rfl,rfl,_,rfl,J7 (nW (y:= .halfEven) (z:= .ceiling) (by decide)) ⟨_,rfl,rfl,_,rfl,J7 (nW (y:= .halfEven) (z:= .fiveUp) (by decide)) ⟨_,rfl,rfl,_,rfl,?_⟩⟩⟩⟩
     by_cases e:t=2
     . rw[decide_eq_true (congrArg V.int e)]
       exact J4 ⟨_,rfl,rfl,_,rfl,J7 (nW (y:= .halfEven) (z:= .halfUp) (by decide)) ⟨_,rfl,rfl,_,rfl,U7 rfl ⟨_,rfl,_,_,rfl,rfl,(by decide:(0:Int)<2),rfl,rest _ (by subst e;show decide (V.int ((n:Int) % 10 % 2)=V.int 1)=_;rw[show(n:Int) % 10 % 2=(n:Int) % 2 by omega])⟩⟩⟩
     . rw[decide_eq_false (fun q=>e (by injection q):¬V.int t=V.int 2)]
       refine V2 ⟨_,rfl,rfl,rest _ ?_⟩
       rcases(by omega:t=1\/t=3) with rfl|rfl<;>rfl
   | fiveUp=>
     show if(inV (.str (Wy.name .fiveUp)) [.str "down",.str "up"])=true then _ else _
     rw[show inV (.str (Wy.name .fiveUp)) [.str "down",.str "up"]=false by decide+kernel]
     have lg:((n:Int)).natAbs.log2<1920:=Nat.lt_trans (V5 (i:=(n:Int)) (k:=300) (by rw[Int.natAbs_natCast];exact hn) (by decide)) (by decide)
     refine J4 ⟨_,rfl,rfl,_,rfl,J7 (nW (y:= .fiveUp) (z:= .floor) (by decide)) ⟨_,rfl,rfl,_,rfl,J7 (nW (y:= .fiveUp) (z:= .ceiling) (by decide)) ⟨_,rfl,rfl,_,rfl,U7 rfl ?_⟩⟩⟩
     refine⟨_,rfl,_,rfl,lg,_,rfl,_,_,_,rfl,rfl,int_text_fits lg,Y4t n,_,_,rfl,rfl,?_⟩
     rw[Z9v (n % 10) (by omega)]
     refine rest _ ?_
     show(eqV (.int 0) (.int ((n:Int) % 10))||(eqV (.int 5) (.int ((n:Int) % 10))||false))=_
     rw[eqI,eqI,Bool.or_false]
     have e0:decide ((n:Int) % 10=0)=(n % 10==0):=by
       by_cases h:n % 10=0
       . rw[decide_eq_true (by omega)];simp[h]
       . rw[decide_eq_false (by omega)];simpa using h
     have e5:decide ((n:Int) % 10=5)=(n % 10==5):=by
       by_cases h:n % 10=5
       . rw[decide_eq_true (by omega)];simp[h]
       . rw[decide_eq_false (by omega)];simpa using h
     rw[e0,e5]
noncomputable def G3k:Sp:=fun vs H Q _=>∃(y:Wy) (s:Int),vs=[.str y.name,.int s]/\0<=s/\s<=1/\∀H',Same H H' ->Q (.bl (y.toEnd s)) H'
theorem U8y:FnScope ["_law_name","_law_sign"] ["_law_name","_law_sign"] (A2 A5c):=scK
theorem J9e(D:Def K mg "_law_to_end" ["_law_name","_law_sign"] A5c f fd):FnOk P w K mg base (CX1 P w) 1 f fd ["_law_name","_law_sign"] G3k:=by
 refine FnOk.up (D.F.ok U8y (fun vs H Q E h=>?_) (fun cdv A outer s H vs Q E hr h=>?_))
 . obtain⟨y,z,rfl,_⟩:=h
   rfl
 . obtain⟨y,z,rfl,z0,z1,k⟩:=h
   refine⟨_,(A4 (G6 (C4 A4e (pv 0) (Y1 (A0 B9 (A0 B9 A5))) (by rfl)) (A6 (B3 A1h)) C6)
     (A6 (B3 (G7z (U8a (A2j (D3 G4 (pv 0) B9 (B5 _)) (Y7 (D3 G4 (pv 1) A3 (B5 _)))) (Y7 (A2j (D3 G4 (pv 0) B9 (B5 _)) (Y7 (D3 G4 (pv 1) A3 (B5 _)))))))))),?_⟩
   have z2:2<=sizeLine:=C7 (by decide)
   refine⟨_,rfl,z2,fun p np=>⟨p,_,rfl,.inr (SqT.of A8),rfl,rfl,_,rfl,?_⟩⟩
   have u:=Same.upd (o:= .tup [.str "down",.str "five up"]) np
   have k:=k _ u
   generalize upd H p (.tup [.str "down",.str "five up"])=H1 at u k
   have rest:∀b:Bool,y.toEnd z=b ->Q (.bl b) H1:=fun b e=>by rw[<-e];exact k
   cases y with
   | down=>
     show if(inV (.str (Wy.name .down)) [.str "down",.str "five up"])=true then _ else _
     rw[show inV (.str (Wy.name .down)) [.str "down",.str "five up"]=true by decide+kernel]
     exact V2 k
   | up=>
     show if(inV (.str (Wy.name .up)) [.str "down",.str "five up"])=true then _ else _
     rw[show inV (.str (Wy.name .up)) [.str "down",.str "five up"]=false by decide+kernel]
     exact J4 ⟨_,rfl,rfl,_,rfl,J7 (nW (y:= .up) (z:= .floor) (by decide)) ⟨_,rfl,J4 ⟨_,rfl,rfl,_,rfl,J7 (nW (y:= .up) (z:= .ceiling) (by decide)) ⟨_,rfl,rest _ rfl⟩⟩⟩⟩
   | floor=>
     show if(inV (.str (Wy.name .floor)) [.str "down",.str "five up"])=true then _ else _
     rw[show inV (.str (Wy.name .floor)) [.str "down",.str "five up"]=false by decide+kernel]
     rcases(by omega:z=0\/z=1) with rfl|rfl
     . exact J4 ⟨_,rfl,rfl,_,rfl,U7 rfl ⟨_,rfl,rfl,_,rfl,U7 rfl ⟨_,rfl,rest _ (by decide+kernel)⟩⟩⟩
     . exact J4 ⟨_,rfl,rfl,_,rfl,U7 rfl ⟨_,rfl,rfl,_,rfl,J7 (by decide) ⟨_,rfl,rfl,_,rfl,J7 (nW (y:= .floor) (z:= .ceiling) (by decide)) ⟨_,rfl,rest _ (by decide+kernel)⟩⟩⟩⟩
   | ceiling=>
     show if(inV (.str (Wy.name .ceiling)) [.str "down",.str "five up"])=true then _ else _
     rw[show inV (.str (Wy.name .ceiling)) [.str "down",.str "five up"]=false by decide+kernel]
     rcases(by omega:z=0\/z=1) with rfl|rfl
     . exact J4 ⟨_,rfl,rfl,_,rfl,J7 (nW (y:= .ceiling) (z:= .floor) (by decide)) ⟨_,rfl,J4 ⟨_,rfl,rfl,_,rfl,U7 rfl ⟨_,rfl,rfl,_,rfl,rest _ (by decide+kernel)⟩⟩⟩⟩
     . exact J4 ⟨_,rfl,rfl,_,rfl,J7 (nW (y:= .ceiling) (z:= .floor) (by decide)) ⟨_,rfl,J4 ⟨_,rfl,rfl,_,rfl,U7 rfl ⟨_,rfl,rfl,_,rfl,rest _ (by decide+kernel)⟩⟩⟩⟩
   | halfUp=>
     show if(inV (.str (Wy.name .halfUp)) [.str "down",.str "five up"])=true then _ else _
     rw[show inV (.str (Wy.name .halfUp)) [.str "down",.str "five up"]=false by decide+kernel]
     exact J4 ⟨_,rfl,rfl,_,rfl,J7 (nW (y:= .halfUp) (z:= .floor) (by decide)) ⟨_,rfl,J4 ⟨_,rfl,rfl,_,rfl,J7 (nW (y:= .halfUp) (z:= .ceiling) (by decide)) ⟨_,rfl,rest _ rfl⟩⟩⟩⟩
   | halfDown=>
     show if(inV (.str (Wy.name .halfDown)) [.str "down",.str "five up"])=true then _ else _
     rw[show inV (.str (Wy.name .halfDown)) [.str "down",.str "five up"]=false by decide+kernel]
     exact J4 ⟨_,rfl,rfl,_,rfl,J7 (nW (y:= .halfDown) (z:= .floor) (by decide)) ⟨_,rfl,J4 ⟨_,rfl,rfl,_,rfl,J7 (nW (y:= .halfDown) (z:= .ceiling) (by decide)) ⟨_,rfl,rest _ rfl⟩⟩⟩⟩
   | halfEven=>
     show if(inV (.str (Wy.name .halfEven)) [.str "down",.str "five up"])=true then _ else _
     rw[show inV (.str (Wy.name .halfEven)) [.str "down",.str "five up"]=false by decide+kernel]
     exact J4 ⟨_,rfl,rfl,_,rfl,J7 (nW (y:= .halfEven) (z:= .floor) (by decide)) ⟨_,rfl,J4 ⟨_,rfl,rfl,_,rfl,J7 (nW (y:= .halfEven) (z:= .ceiling) (by decide)) ⟨_,rfl,rest _ rfl⟩⟩⟩⟩
   | fiveUp=>
     show if(inV (.str (Wy.name .fiveUp)) [.str "down",.str "five up"])=true then _ else _
     rw[show inV (.str (Wy.name .fiveUp)) [.str "down",.str "five up"]=true by decide+kernel]
     exact V2 k
end
noncomputable abbrev B2z:Stmt:=(top 57)
section
variable{P:Program}{w:World}{K:Frag}{mg:Str ->Option Value}{base:Heap}
noncomputable def allWy:List Wy:=[.down,.up,.floor,.ceiling,.halfUp,.halfDown,.halfEven,.fiveUp]
noncomputable def G7f:List V:=allWy.map fun y=>V.str y.name
noncomputable def J6n:Sp:=fun vs H Q _=>vs=[]/\∀l,H l=none ->Q (.ref l) (upd H l (.lst G7f))
theorem Y5f:FnScope [] [] (A2 B2z):=scK
theorem U8n(D:Def K mg "_law_names" [] B2z f fd):FnOk P w K mg base (CX1 P w) 1 f fd [] J6n:=by
 refine FnOk.up (D.F.ok Y5f (fun vs H Q E h=>?_) (fun cdv A outer s H vs Q E hr h=>?_))
 . obtain⟨rfl,_⟩:=h
   rfl
 . obtain⟨rfl,k⟩:=h
   refine⟨_,(A6 (B3 (U5 (A0 B9 (A0 B9 (A0 B9 (A0 B9 (A0 B9 (A0 B9 (A0 B9 (A0 B9 A5))))))))))),?_⟩
   exact⟨C7 (by decide),k⟩
end
noncomputable abbrev B2y:Stmt:=(top 61)
section
variable{P:Program}{w:World}{K:Frag}{mg:Str ->Option Value}{base:Heap}
theorem dv{n:Int}(h:0<n)(h2:n.natAbs.log2<9000):(0:Int)<n/\n.natAbs.log2<9000:=⟨h,h2⟩
noncomputable def J6h:Sp:=fun vs H Q _=>∃c,vs=[.int c]/\0<=c/\∀t r y l m H',1<=r ->r<=24 -> -60<=l ->l<=0 ->0<=m ->m<=60 ->Same H H' ->H' t=some (.tup [.int r,.str (Wy.name y),.int l,.int m]) ->Q (.ref t) H'
theorem scDrawn:FnScope ["_law_cell","_law_room","_law_name","_law_more"] ["_law_cell"] (A2 B2y):=scK
theorem U9f{f fN:Addr}{fd fdN:FuncData}(D:Def K mg "_law_drawn_context" ["_law_cell"] B2y f fd)(dA:Def K mg "_law_names" [] B2z fN fdN)(dB:FnOk P w K mg base (CX1 P w) 1 fN fdN [] J6n):FnOk P w K mg base (CX1 P w) 2 f fd ["_law_cell"] J6h:=by
 refine D.F.okE scDrawn (fun vs H Q E h=>?_) (fun X cdv A outer s H vs Q E hX hr hx h=>?_)
 . obtain⟨c,rfl,_⟩:=h
   rfl
 . subst hX
   obtain⟨c,rfl,c0,k⟩:=h
   refine⟨_,(A4 (C5 (i:=1) scDrawn.nd rfl (Or.inl rfl) (G7 A4s (U5 (A0 (A7 D9 A3 (A7 J1 (pv 0) A3)) (A0 (A7 D9 A3 (A7 J1 (pv 0) A3)) (A0 (A7 D9 A3 (A7 J1 (pv 0) A3)) A5)))) (A7 J1 (A7 D5 (pv 0) A3) A3) (fun _ _=>rfl)))
     (A4 (C5 (i:=2) scDrawn.nd rfl (Or.inl rfl) (G7 A4s (Y9v dA dB hr hx) (A7 J1 (A7 D5 (pv 0) A3) A3) (fun _ _=>rfl)))
     (A4 (C5 (i:=3) scDrawn.nd rfl (Or.inl rfl) (A7 D5 (pv 0) A3))
     (A4 (G6 (C4 G4 (A7 J1 (pv 3) A3) A3 (B5 _)) (A6 (B3 (Y1 (A0 (pv 1) (A0 (pv 2) (A0 (A7 G9 A3 (A7 J1 (A7 D5 (pv 3) A3) A3)) (A0 (A7 J1 (A7 D5 (pv 3) A3) A3) A5))))))) C6)
     (A6 (B3 (Y1 (A0 (pv 1) (A0 (pv 2) (A0 (A7 G9 A3 (A7 J1 (A7 D5 (pv 3) A3) A3)) (A0 (A7 J1 (A7 D5 (pv 3) A3) A3) A5))))))))))),?_⟩
   have p24:(0:Int)<24:=by decide
   have p3:(0:Int)<3:=by decide
   have p9:(0:Int)<9:=by decide
   have p8:(0:Int)<8:=by decide
   have p61:(0:Int)<61:=by decide
   have p4:(0:Int)<4:=by decide
   have d24:=dv (n:=24) (by decide) (by decide+kernel)
   have d72:=dv (n:=72) (by decide) (by decide+kernel)
   have d576:=dv (n:=576) (by decide) (by decide+kernel)
   have d3:=dv (n:=3) (by decide) (by decide+kernel)
   have d183:=dv (n:=183) (by decide) (by decide+kernel)
   have d12:=dv (n:=12) (by decide) (by decide+kernel)
   have z3:3<=sizeLine:=C7 (by decide)
   have z4:4<=sizeLine:=C7 (by decide)
   obtain⟨r,hmr,ix1⟩:=ixs (xs:=[1+c % 24,1+c % 3,1+c % 9]) (i:=c/24 % 3) (Int.emod_nonneg _ (by decide)) (by show c/24 % 3<3;exact Int.emod_lt_of_pos _ (by decide))
   obtain⟨nm,hmn,ix2⟩:=ixv (xs:=G7f) (i:=c/72 % 8) (Int.emod_nonneg _ (by decide)) (by show c/72 % 8<8;exact Int.emod_lt_of_pos _ (by decide))
   obtain⟨y,rfl⟩:∃y:Wy,nm= .str y.name:=by
     obtain⟨y,_,e⟩:=List.mem_map.mp hmn
     exact⟨y,e.symm⟩
   have br:1<=r/\r<=24:=by
     simp only[List.mem_cons,List.not_mem_nil,or_false] at hmr
     rcases hmr with rfl|rfl|rfl<;>omega
   refine⟨_,rfl,_,_,rfl,rfl,p24,_,_,rfl,rfl,_,rfl,_,_,rfl,rfl,p3,_,_,rfl,rfl,_,rfl,_,_,rfl,rfl,p9,_,_,rfl,rfl,z3,fun l1 n1=>?_⟩
   refine⟨_,rfl,_,_,rfl,rfl,d24,_,_,rfl,rfl,p3,l1,_,_,_,rfl,rfl,SqL.of A8,ix1,?_⟩
   refine⟨rfl,fun l2 n2=>⟨_,rfl,_,_,rfl,rfl,d72,_,_,rfl,rfl,p8,l2,_,_,_,rfl,rfl,SqL.of A8,ix2,?_⟩⟩
   have s2:=(Same.upd (o:= .lst [.int (1+c % 24),.int (1+c % 3),.int (1+c % 9)]) n1).trans (Same.upd (o:= .lst G7f) n2)
   refine⟨_,rfl,_,_,rfl,rfl,d576,?_⟩
   refine⟨_,rfl,_,_,rfl,rfl,p3,rfl,_,rfl,V0 (fun _=>?_) (fun _=>?_)⟩
   . refine⟨_,rfl,_,rfl,_,rfl,_,_,rfl,rfl,d3,_,_,rfl,rfl,p61,_,_,rfl,rfl,_,rfl,_,_,rfl,rfl,d183,_,_,rfl,rfl,p61,z4,fun t nt=>?_⟩
     exact k t r y _ _ _ br.1 br.2 (by omega) (by omega) (by omega) (by omega) (s2.trans (Same.upd nt)) A8
   . refine⟨_,rfl,_,rfl,_,rfl,_,_,rfl,rfl,d3,_,_,rfl,rfl,p4,_,_,rfl,rfl,_,rfl,_,_,rfl,rfl,d12,_,_,rfl,rfl,p4,z4,fun t nt=>?_⟩
     exact k t r y _ _ _ br.1 br.2 (by omega) (by omega) (by omega) (by omega) (s2.trans (Same.upd nt)) A8
end
theorem Y9x{a b:Int}(h:0<a)(h2:b<2*a):Y5 a b=3:=by
 unfold Y5
 rw[decide_eq_true h,decide_eq_true (show b<=2*a by omega),decide_eq_true h2]
 rfl
theorem Y9r{a b:Int}(h:0<a)(h2:2*a=b):Y5 a b=2:=by
 unfold Y5
 rw[decide_eq_true h,decide_eq_true (show b<=2*a by omega),decide_eq_false (show¬b<2*a by omega)]
 rfl
theorem Y9q{a b:Int}(h:0<a)(h2:2*a<b):Y5 a b=1:=by
 unfold Y5
 rw[decide_eq_true h,decide_eq_false (show¬b<=2*a by omega),decide_eq_false (show¬b<2*a by omega)]
 rfl
theorem U7w{a b:Int}(h:a=0)(hb:0<b):Y5 a b=0:=by
 subst h
 unfold Y5
 rw[decide_eq_false (show¬(0:Int)<0 by omega),decide_eq_false (show¬b<=2*0 by omega),decide_eq_false (show¬b<2*0 by omega)]
 rfl
inductive Lv where
 |rat (t b n:Int)
 |roo (t n:Int)
noncomputable def Y2 (t b:Int):Int:=if t*A1 (-(G8 t-G8 b))<b*A1 (G8 t-G8 b) then G8 t-G8 b-1 else G8 t-G8 b
noncomputable def A2w (t n:Int):Int:=(G8 t-1+n)/2
noncomputable def Lv.L:Lv ->Int
 | .rat t b n=>n+Y2 t b
 | .roo t n=>A2w t n
noncomputable def Lv.wh:Lv ->Int ->Int
 | .rat t b n,p=>whI t b (n-p)
 | .roo t n,p=>whQ t (n-2*p)
noncomputable def Lv.pt:Lv ->Int ->Int
 | .rat t b n,p=>ptI t b (n-p)
 | .roo t n,p=>G6t t (n-2*p) (whQ t (n-2*p))
noncomputable def Lv.In:Lv ->Int ->Prop
 | .rat _ _ n,p=> -1500<=n-p/\n-p<=1500
 | .roo _ n,p=> -200<=n-2*p/\n-2*p<=200
theorem Y4b{f:Int}(h:9<f):G8 f=G8 (f/10)+1:=by
 obtain⟨n,rfl⟩:∃n:Nat,f=(n:Int):=⟨f.toNat,by omega⟩
 obtain⟨j,a,b⟩:=B4v n (by omega)
 rcases j with _|j
 . exfalso
   have:n<10:=by simpa using b
   omega
 . rw[B1p b a,show(n:Int)/10=((n/10:Nat):Int) by omega]
   rw[Nat.pow_succ] at a b
   rw[B1p (n:=n/10) (j:=j) (by omega) (by omega)]
   omega
theorem G8n{t:Int}(h:Sz t):A1 (G8 t-1)<=t/\t<A1 (G8 t)/\1<=G8 t:=by
 obtain⟨n,rfl,h1,_⟩:=h.nat
 obtain⟨j,a,b⟩:=B4v n h1
 rw[B1p b a]
 have e1:A1 ((j:Int)+1-1)=((10^j:Nat):Int):=by unfold A1;rw[show((j:Int)+1-1).toNat=j by omega]
 have e2:A1 ((j:Int)+1)=((10^(j+1):Nat):Int):=by unfold A1;rw[show((j:Int)+1).toNat=j+1 by omega]
 rw[e1,e2]
 exact⟨Int.ofNat_le.mpr a,Int.ofNat_lt.mpr b,by omega⟩
section
variable{P:Program}{w:World}{K:Frag}{mg:Str ->Option Value}{base:Heap}
end
theorem D1w{t b:Int}(ht:Sz t)(hb:Sz b)(n:Int):A1j t b (n-(n+Y2 t b)):=by
 obtain⟨tn',et,t1,_⟩:=ht.nat
 obtain⟨bn,eb,b1,_⟩:=hb.nat
 obtain⟨L,l1,l2⟩:=B4v tn' t1
 obtain⟨M,m1,m2⟩:=B4v bn b1
 subst et eb
 rw[show n-(n+Y2 (tn':Int) (bn:Int))=0-Y2 (tn':Int) (bn:Int) by omega]
 unfold Y2
 rw[B1p l2 l1,B1p m2 m1,show(L:Int)+1-((M:Int)+1)=(L:Int)-M by omega]
 split
 . rename_i h
   have:=C1c l1 l2 m1 m2 (by rw[show(M:Int)-L= -((L:Int)-M) by omega,Int.neg_neg];exact h)
   rw[show(0:Int)- ((L:Int)-M-1)=(M:Int)-L+1 by omega]
   exact this
 . rename_i h
   have:=D0q l1 l2 m1 m2 (by rw[show(M:Int)-L= -((L:Int)-M) by omega,Int.neg_neg];omega)
   rw[show(0:Int)- ((L:Int)-M)=(M:Int)-L by omega]
   exact this
theorem C0k{t:Int}(ht:SzQ t)(n:Int):A7t t (n-2*A2w t n):=by
 obtain⟨m,rfl,h1,_⟩:=J6q ht
 obtain⟨L,l1,l2⟩:=B4v m h1
 refine C9u l1 l2 ?_
 unfold A2w
 rw[B1p l2 l1]
 congr 1
 omega
section
variable{P:Program}{w:World}{K:Frag}{mg:Str ->Option Value}{base:Heap}
end
noncomputable def setL (v:Cv) (s:Int) (lv:Lv) (i:Int):Nm×List Str:=B1m v s (lv.wh (v.fin lv.L)) (lv.pt (v.fin lv.L)) lv.L (v.fin lv.L) i
theorem J6d{t:Int}(h:SzL t):1<=G8 t/\G8 t<=500:=by
 have fb:=G8n h.sz
 refine⟨fb.2.2,?_⟩
 apply Classical.byContradiction
 intro z
 have a:A1 500<=A1 (G8 t-1):=D8 (by omega)
 have:=h.2
 omega
theorem U9u{v:Cv}{t b n:Int}(ok:v.Ok)(ht:SzL t)(hb:SzL b)(n0: -1300<=n)(n1:n<=1300):(Lv.rat t b n).In (v.fin (n+Y2 t b))/\0<=whI t b (n-v.fin (n+Y2 t b))/\whI t b (n-v.fin (n+Y2 t b))<A1 v.r:=by
 have ft:=J6d ht;have fb:=J6d hb
 have r1:=ok.r1;have r2:=ok.r2;have l1:=ok.l1;have l2:=ok.l2
 have lf: -501<=Y2 t b/\Y2 t b<=501:=by
   unfold Y2
   split<;>omega
 have wr:=J7x (s1:=n-(n+Y2 t b)) (s2:=n-v.fin (n+Y2 t b)) (r:=v.r) ht.sz hb.sz (D1w ht.sz hb.sz n) r1 (by
   unfold Cv.fin B2b
   split<;>omega)
 refine⟨?_,wr⟩
 show -1500<=n-v.fin (n+Y2 t b)/\n-v.fin (n+Y2 t b)<=1500
 unfold Cv.fin B2b
 split<;>omega
theorem U0m{t s s0 r:Int}(ht:1<=t)(h:A7t t s0)(hr:1<=r)(e:s<=s0+2*(r-1)):whQ t s<A1 r:=by
 have wq:=B4n (s:=s) ht
 have bp:=B8 (-s)
 have key:t*A1 s<A1 (2*r)*A1 (-s):=by
   have p0:=B8 (-s0)
   by_cases hs:s0<=s
   . have c:=A0f hs
     have q:t*A1 s*A1 (-s0)=t*A1 s0*A1 (-s)*A1 (s-s0):=by
       calc t*A1 s*A1 (-s0)=t*(A1 s*A1 (-s0)):=by ac_rfl
         _=t*(A1 s0*A1 (-s)*A1 (s-s0)):=by rw[c]
         _=t*A1 s0*A1 (-s)*A1 (s-s0):=by ac_rfl
     have a1:t*A1 s0*A1 (-s)<100*A1 (-s0)*A1 (-s):=Int.mul_lt_mul_of_pos_right h.2 bp
     have a2:t*A1 s0*A1 (-s)*A1 (s-s0)<100*A1 (-s0)*A1 (-s)*A1 (s-s0):=Int.mul_lt_mul_of_pos_right a1 (B8 _)
     have g:A1 (s-s0)<=A1 (2*(r-1)):=D8 (by omega)
     have a3:100*A1 (-s0)*A1 (-s)*A1 (s-s0)<=100*A1 (-s0)*A1 (-s)*A1 (2*(r-1)):=Int.mul_le_mul_of_nonneg_left g (Int.le_of_lt (Int.mul_pos (Int.mul_pos (by decide) p0) bp))
     have e2:A1 (2*r)=100*A1 (2*(r-1)):=by
       unfold A1
       rw[show(2*r).toNat=(2*(r-1)).toNat+2 by omega,Nat.pow_add,Int.natCast_mul,Int.mul_comm]
       rfl
     have e3:100*A1 (-s0)*A1 (-s)*A1 (2*(r-1))=A1 (2*r)*A1 (-s)*A1 (-s0):=by rw[e2];ac_rfl
     exact Int.lt_of_mul_lt_mul_right (by rw[q, <-e3];omega) (Int.le_of_lt p0)
   . have c:=A0f (show s<=s0 by omega)
     have q:t*A1 s0*A1 (-s)=t*A1 s*A1 (-s0)*A1 (s0-s):=by
       calc t*A1 s0*A1 (-s)=t*(A1 s0*A1 (-s)):=by ac_rfl
         _=t*(A1 s*A1 (-s0)*A1 (s0-s)):=by rw[c]
         _=t*A1 s*A1 (-s0)*A1 (s0-s):=by ac_rfl
     have a1:t*A1 s0*A1 (-s)<100*A1 (-s0)*A1 (-s):=Int.mul_lt_mul_of_pos_right h.2 bp
     have d:=B8 (s0-s)
     have a2:t*A1 s*A1 (-s0)*1<=t*A1 s*A1 (-s0)*A1 (s0-s):=Int.mul_le_mul_of_nonneg_left (by omega) (Int.le_of_lt (Int.mul_pos (Int.mul_pos (by omega) (B8 _)) p0))
     have g:100<=A1 (2*r):=by
       have:A1 2<=A1 (2*r):=D8 (by omega)
       have e:A1 2=100:=rfl
       omega
     have a3:100*(A1 (-s0)*A1 (-s))<=A1 (2*r)*(A1 (-s0)*A1 (-s)):=Int.mul_le_mul_of_nonneg_right g (Int.le_of_lt (Int.mul_pos p0 bp))
     have e3:100*A1 (-s0)*A1 (-s)=100*(A1 (-s0)*A1 (-s)):=by ac_rfl
     have e4:A1 (2*r)*(A1 (-s0)*A1 (-s))=A1 (2*r)*A1 (-s)*A1 (-s0):=by ac_rfl
     exact Int.lt_of_mul_lt_mul_right (a:=A1 (-s0)) (by rw[q] at a1;rw[<-e4];omega) (Int.le_of_lt p0)
 apply Classical.byContradiction
 intro z
 have w:A1 r<=whQ t s:=by omega
 have ww:A1 r*A1 r<=whQ t s*whQ t s:=Int.mul_le_mul w w (Int.le_of_lt (B8 _)) wq.1
 have e:A1 (2*r)=A1 r*A1 r:=by
   unfold A1
   rw[<-Int.natCast_mul, <-Nat.pow_add]
   congr 2
   omega
 have:=wq.2.1
 have b:A1 r*A1 r*A1 (-s)<=whQ t s*whQ t s*A1 (-s):=Int.mul_le_mul_of_nonneg_right ww (Int.le_of_lt bp)
 rw[e] at key
 omega
theorem J7v{v:Cv}{t n:Int}(ok:v.Ok)(ht:SzQ t)(n0: -200<=n)(n1:n<=200): -200<=n-2*v.fin (A2w t n)/\n-2*v.fin (A2w t n)<=200/\whQ t (n-2*v.fin (A2w t n))<A1 v.r:=by
 have ld:=C0k ht n
 have lb:=G3c ht ld
 have r1:=ok.r1;have r2:=ok.r2;have l1:=ok.l1;have l2:=ok.l2
 have rm:=U0m (s:=n-2*v.fin (A2w t n)) (r:=v.r) ht.1 ld r1 (by
   unfold Cv.fin B2b
   split<;>omega)
 refine⟨?_,?_,rm⟩
 . unfold Cv.fin B2b
   split<;>omega
 . unfold Cv.fin B2b
   split<;>omega
noncomputable def B3d (CN CC CT CR CQ:Addr):Sp:=fun vs H Q E=>A5h CN CC CT CR (A4c CR) (C1f CR) vs H Q E\/A5h CN CC CT CQ (A8e CQ) (G2y CQ) vs H Q E
theorem Y4{a b:Int}(ha:0<=a)(hb:0<=b):A1 (a+b)=A1 a*A1 b:=by
 unfold A1
 rw[show(a+b).toNat=a.toNat+b.toNat by omega,Nat.pow_add]
 exact Int.natCast_mul _ _
noncomputable def agI (a b:Int):Int:=(if decide (a>b)=true then 1 else 0)- (if decide (a<b)=true then 1 else 0)
theorem U8h{a b:Int}:agI a b<=0↔a<=b:=by
 unfold agI
 by_cases h:a>b
 . rw[if_pos (decide_eq_true h),if_neg (by simp;omega)];omega
 . rw[if_neg (by simpa using h)]
   split<;>omega
theorem ag_0{a b:Int}:agI a b=0↔a=b:=by
 unfold agI
 by_cases h:a>b
 . rw[if_pos (decide_eq_true h),if_neg (by simp;omega)];omega
 . rw[if_neg (by simpa using h)]
   by_cases g:a<b
   . rw[if_pos (decide_eq_true g)];omega
   . rw[if_neg (by simpa using g)];omega
theorem C0u{a b E:Int}(hE:0<E):agI (a*E) (b*E)=agI a b:=by
 unfold agI
 have l:∀x y:Int,(x*E<y*E↔x<y):=fun x y=>⟨fun h=>Int.lt_of_mul_lt_mul_right h (Int.le_of_lt hE),fun h=>Int.mul_lt_mul_of_pos_right h hE⟩
 rw[show decide (a*E>b*E)=decide (a>b) from decide_eq_decide.mpr (l b a),show decide (a*E<b*E)=decide (a<b) from decide_eq_decide.mpr (l a b)]
noncomputable def Lv.one:Lv ->Int ->Int ->Int
 | .rat _ b n,w,q=>w*b*A1 (q-n)
 | .roo _ n,w,q=>w*w*1*A1 (2*q-n)
noncomputable def Lv.oth:Lv ->Int ->Int
 | .rat t _ n,q=>t*A1 (n-q)
 | .roo t n,q=>t*A1 (n-2*q)
noncomputable def Lv.Ps:Lv ->Prop
 | .rat t b _=>1<=t/\1<=b
 | .roo t _=>1<=t
theorem J6g{X Y s d:Int}(hd:0<=d):agI (X*A1 (-(s+d))) (Y*A1 (s+d))=agI (X*A1 (-s)) (A1 d*Y*A1 s):=by
 have c:=A0f (s:=s) (r:=s+d) (by omega)
 rw[show s+d-s=d by omega] at c
 have e1:=C0u (a:=X*A1 (-(s+d))) (b:=Y*A1 (s+d)) (B8 (-s))
 have e2:=C0u (a:=X*A1 (-s)) (b:=A1 d*Y*A1 s) (B8 (-(s+d)))
 rw[<-e1, <-e2]
 congr 1
 . ac_rfl
 . calc Y*A1 (s+d)*A1 (-s)=Y*(A1 (s+d)*A1 (-s)):=by ac_rfl
     _=Y*(A1 s*A1 (-(s+d))*A1 d):=by rw[c]
     _=A1 d*Y*A1 s*A1 (-(s+d)):=by ac_rfl
theorem G3d(lv:Lv)(w q:Int):∃E F:Int,0<E/\lv.oth q=F/\(∀u,agI (lv.one u (q-1)) (lv.oth (q-1))=agI (match lv with| .rat _ b n=>u*b*A1 (q-n)| .roo _ n=>u*u*A1 (2*q-n)) (E*F))/\E=(match lv with| .rat _ _ _=>10| .roo _ _=>100):=by
 cases lv with
 | rat t b n=>
   refine⟨10,t*A1 (n-q),by decide,rfl,fun u=>?_,rfl⟩
   have f:=J6g (X:=u*b) (Y:=t) (s:=n-q) (d:=1) (by decide)
   show agI (u*b*A1 (q-1-n)) (t*A1 (n-(q-1)))=_
   rw[show q-1-n= -(n-q+1) by omega,show n-(q-1)=n-q+1 by omega,f,show -(n-q)=q-n by omega,show A1 1=10 from rfl,Int.mul_assoc 10]
 | roo t n=>
   refine⟨100,t*A1 (n-2*q),by decide,rfl,fun u=>?_,rfl⟩
   have f:=J6g (X:=u*u) (Y:=t) (s:=n-2*q) (d:=2) (by decide)
   show agI (u*u*1*A1 (2*(q-1)-n)) (t*A1 (n-2*(q-1)))=_
   rw[Int.mul_one,show 2*(q-1)-n= -(n-2*q+2) by omega,show n-2*(q-1)=n-2*q+2 by omega,f,show -(n-2*q)=2*q-n by omega,show A1 2=100 from rfl,Int.mul_assoc 100]
theorem A8a{lv:Lv}(h:lv.Ps){u:Int}(hu:0<=u)(q:Int):lv.one u q<=lv.oth q↔u<=lv.wh q:=by
 cases lv with
 | rat t b n=>
   have lp:0<b*A1 (-(n-q)):=Int.mul_pos (by have:=h.2;omega) (B8 _)
   show u*b*A1 (q-n)<=t*A1 (n-q)↔u<=t*A1 (n-q)/(b*A1 (-(n-q)))
   rw[Int.le_ediv_iff_mul_le lp,show q-n= -(n-q) by omega,Int.mul_assoc]
 | roo t n=>
   obtain⟨w0,a,b⟩:=B4n (s:=n-2*q) h
   show u*u*1*A1 (2*q-n)<=t*A1 (n-2*q)↔u<=whQ t (n-2*q)
   rw[show 2*q-n= -(n-2*q) by omega,Int.mul_one]
   generalize whQ t (n-2*q)=W at*
   have tp:=B8 (-(n-2*q))
   refine⟨fun z=>Classical.byContradiction fun c=>?_,fun z=>?_⟩
   . have:(W+1)*(W+1)<=u*u:=Int.mul_le_mul (by omega) (by omega) (by omega) hu
     have:(W+1)*(W+1)*A1 (-(n-2*q))<=u*u*A1 (-(n-2*q)):=Int.mul_le_mul_of_nonneg_right this (Int.le_of_lt tp)
     omega
   . have:u*u<=W*W:=Int.mul_le_mul z z hu w0
     have:u*u*A1 (-(n-2*q))<=W*W*A1 (-(n-2*q)):=Int.mul_le_mul_of_nonneg_right this (Int.le_of_lt tp)
     omega
theorem Lv.wh_0{lv:Lv}(h:lv.Ps)(q:Int):0<=lv.wh q:=by
 refine(A8a h (Int.le_refl 0) q).mp ?_
 cases lv with
 | rat t b n=>
   show 0*b*A1 (q-n)<=t*A1 (n-q)
   rw[Int.zero_mul,Int.zero_mul]
   exact Int.mul_nonneg (by have:=h.1;omega) (Int.le_of_lt (B8 _))
 | roo t n=>
   show 0*0*1*A1 (2*q-n)<=t*A1 (n-2*q)
   rw[show(0:Int)*0*1=0 from rfl,Int.zero_mul]
   exact Int.mul_nonneg (by have h:1<=t:=h;omega) (Int.le_of_lt (B8 _))
theorem Y5j(lv:Lv)(u q:Int):agI (lv.one (10*u) (q-1)) (lv.oth (q-1))=agI (lv.one u q) (lv.oth q):=by
 obtain⟨E,F,hE,eF,f,eE⟩:=G3d lv u q
 rw[f]
 subst eF
 rw[<-C0u (a:=lv.one u q) (b:=lv.oth q) hE,Int.mul_comm E]
 congr 1
 cases lv with
 | rat t b n=>
   rw[eE]
   show 10*u*b*A1 (q-n)=u*b*A1 (q-n)*10
   ac_rfl
 | roo t n=>
   rw[eE]
   show 10*u*(10*u)*A1 (2*q-n)=u*u*1*A1 (2*q-n)*100
   rw[show(100:Int)=10*10 from rfl,Int.mul_one]
   ac_rfl
theorem C1m{lv:Lv}(h:lv.Ps)(q:Int):lv.wh q=lv.wh (q-1)/10:=by
 have key:∀u:Int,0<=u ->(u<=lv.wh q↔10*u<=lv.wh (q-1)):=fun u hu=>by
   rw[<-A8a h hu, <-A8a h (show 0<=10*u by omega), <-U8h (a:=lv.one u q), <-U8h (a:=lv.one (10*u) (q-1)),Y5j]
 have a0:=lv.wh_0 h q
 have b0:=lv.wh_0 h (q-1)
 have a:=(key (lv.wh q) a0).mp (Int.le_refl _)
 have b:=mt (key (lv.wh q+1) (by omega)).mpr (by omega)
 omega
noncomputable def Lv.mA:Lv ->Int ->Int ->Int
 | .rat _ b n,w,q=>(2*w+1)*(b*A1 (-(n-q)))
 | .roo _ n,w,q=>(2*w+1)*(2*w+1)*A1 (-(n-2*q))
noncomputable def Lv.mB:Lv ->Int ->Int
 | .rat t _ n,q=>2*(t*A1 (n-q))
 | .roo t n,q=>4*(t*A1 (n-2*q))
noncomputable def ptC (a b A B:Int):Int:=if a=b then 0 else 1+(if decide (A<=B)=true then 1 else 0)+(if decide (A<B)=true then 1 else 0)
theorem G2v{lv:Lv}(h:lv.Ps)(q:Int):lv.pt q=ptC (lv.one (lv.wh q) q) (lv.oth q) (lv.mA (lv.wh q) q) (lv.mB q):=by
 cases lv with
 | rat t b n=>
   have lp:0<b*A1 (-(n-q)):=Int.mul_pos (by have:=h.2;omega) (B8 _)
   have l:=J6f (t:=t) (s:=n-q) (show 0<b by have:=h.2;omega)
   show Y5 (t*A1 (n-q)-whI t b (n-q)*(b*A1 (-(n-q)))) (b*A1 (-(n-q)))=ptC (whI t b (n-q)*b*A1 (q-n)) (t*A1 (n-q)) ((2*whI t b (n-q)+1)*(b*A1 (-(n-q)))) (2*(t*A1 (n-q)))
   have e1:whI t b (n-q)*b*A1 (q-n)=whI t b (n-q)*(b*A1 (-(n-q))):=by rw[show q-n= -(n-q) by omega,Int.mul_assoc]
   have e2:(2*whI t b (n-q)+1)*(b*A1 (-(n-q)))=2*(whI t b (n-q)*(b*A1 (-(n-q))))+b*A1 (-(n-q)):=by rw[Int.add_mul,Int.one_mul,Int.mul_assoc]
   rw[e1,e2]
   generalize whI t b (n-q)*(b*A1 (-(n-q)))=Z at*
   generalize t*A1 (n-q)=T at*
   generalize b*A1 (-(n-q))=U at*
   unfold ptC
   by_cases c:Z=T
   . rw[if_pos c,U7w (by omega) lp]
   . rw[if_neg c]
     rcases(show 2*(T-Z)<U\/2*(T-Z)=U\/U<2*(T-Z) by omega) with d|d|d
     . rw[Y9q (by omega) d,decide_eq_false (by omega),decide_eq_false (by omega)];rfl
     . rw[Y9r (by omega) d,decide_eq_true (by omega),decide_eq_false (by omega)];rfl
     . rw[Y9x (by omega) d,decide_eq_true (by omega),decide_eq_true (by omega)];rfl
 | roo t n=>
   show G6t t (n-2*q) (whQ t (n-2*q))=ptC (whQ t (n-2*q)*whQ t (n-2*q)*1*A1 (2*q-n)) (t*A1 (n-2*q)) _ _
   rw[Int.mul_one,show 2*q-n= -(n-2*q) by omega]
   rfl
theorem Z1m(lv:Lv)(w q:Int):agI (lv.one (10*w+5) (q-1)) (lv.oth (q-1))=agI (lv.mA w q) (lv.mB q):=by
 obtain⟨E,F,hE,eF,f,eE⟩:=G3d lv w q
 rw[f]
 subst eF
 cases lv with
 | rat t b n=>
   rw[eE, <-C0u (a:=Lv.mA (.rat t b n) w q) (b:=Lv.mB (.rat t b n) q) (show(0:Int)<5 by decide)]
   congr 1
   . show(10*w+5)*b*A1 (q-n)=(2*w+1)*(b*A1 (-(n-q)))*5
     rw[show 10*w+5=(2*w+1)*5 by omega,show q-n= -(n-q) by omega]
     ac_rfl
   . show 10*(t*A1 (n-q))=2*(t*A1 (n-q))*5
     omega
 | roo t n=>
   rw[eE, <-C0u (a:=Lv.mA (.roo t n) w q) (b:=Lv.mB (.roo t n) q) (show(0:Int)<25 by decide)]
   congr 1
   . show(10*w+5)*(10*w+5)*A1 (2*q-n)=(2*w+1)*(2*w+1)*A1 (-(n-2*q))*25
     rw[show 10*w+5=(2*w+1)*5 by omega,show 2*q-n= -(n-2*q) by omega,show(25:Int)=5*5 from rfl]
     ac_rfl
   . show 100*(t*A1 (n-2*q))=4*(t*A1 (n-2*q))*25
     omega
theorem Y9y{lv:Lv}(h:lv.Ps)(q:Int):lv.one (lv.wh q) q=lv.oth q↔lv.pt q=0:=by
 rw[G2v h]
 unfold ptC
 by_cases c:lv.one (lv.wh q) q=lv.oth q
 . rw[if_pos c];exact⟨fun _=>rfl,fun _=>c⟩
 . rw[if_neg c]
   refine⟨fun z=>absurd z c,fun z=>?_⟩
   split at z<;>split at z<;>omega
theorem Z9m{lv:Lv}(h:lv.Ps)(q:Int)(z:lv.pt q≠0):2-agI (lv.one (10*lv.wh q+5) (q-1)) (lv.oth (q-1))=lv.pt q:=by
 have c:¬lv.one (lv.wh q) q=lv.oth q:=fun e=>z ((Y9y h q).mp e)
 rw[Z1m,G2v h]
 unfold ptC agI
 rw[if_neg c]
 generalize lv.mA (lv.wh q) q=A
 generalize lv.mB q=B
 rcases(show A<B\/A=B\/B<A by omega) with d|d|d
 . rw[decide_eq_false (show¬A>B by omega),decide_eq_true d,decide_eq_true (show A<=B by omega)];rfl
 . rw[decide_eq_false (show¬A>B by omega),decide_eq_false (show¬A<B by omega),decide_eq_true (show A<=B by omega)];rfl
 . rw[decide_eq_true (show A>B by omega),decide_eq_false (show¬A<B by omega),decide_eq_false (show¬A<=B by omega)];rfl
theorem U9d(lv:Lv)(q:Int)(h:lv.Ps):0<=lv.pt q/\lv.pt q<=3:=by
 rw[G2v h]
 unfold ptC
 split
 . omega
 . split<;>split<;>omega
structure Lv.Ld(lv:Lv)(L:Int):Prop where
 a:1<=lv.wh L
 b:lv.wh L<=9
theorem Z0a{t b n L:Int}(h:(Lv.rat t b n).Ps)(l:A1j t b (n-L)):(Lv.rat t b n).Ld L:=by
 refine⟨(A8a h (by decide) L).mp ?_,Classical.byContradiction fun z=>?_⟩
 . show 1*b*A1 (L-n)<=t*A1 (n-L)
   rw[Int.one_mul,show L-n= -(n-L) by omega]
   exact l.1
 . have:10*b*A1 (L-n)<=t*A1 (n-L):=(A8a h (show(0:Int)<=10 by decide) L).mpr (by omega)
   rw[Int.mul_assoc,show L-n= -(n-L) by omega] at this
   have:=l.2
   omega
theorem Z0r{t n L:Int}(h:(Lv.roo t n).Ps)(l:A7t t (n-2*L)):(Lv.roo t n).Ld L:=by
 refine⟨(A8a h (by decide) L).mp ?_,Classical.byContradiction fun z=>?_⟩
 . show 1*1*1*A1 (2*L-n)<=t*A1 (n-2*L)
   rw[show(1:Int)*1*1=1 from rfl,Int.one_mul,show 2*L-n= -(n-2*L) by omega]
   exact l.1
 . have:10*10*1*A1 (2*L-n)<=t*A1 (n-2*L):=(A8a h (show(0:Int)<=10 by decide) L).mpr (by omega)
   rw[show(10:Int)*10*1=100 from rfl,show 2*L-n= -(n-2*L) by omega] at this
   have:=l.2
   omega
theorem Y8v{lv:Lv}(h:lv.Ps)(q:Int):∀d:Nat,lv.wh q<=lv.wh (q-d)
 |0=>by rw[show q-((0:Nat):Int)=q by omega];exact Int.le_refl _
 | d+1=>by
   have a:=Y8v h q d
   have b:=C1m h (q-d)
   have c:=lv.wh_0 h (q-d-1)
   rw[show q-((d+1:Nat):Int)=q-d-1 by omega]
   omega
theorem G2z{lv:Lv}(h:lv.Ps){p q:Int}(e:p<=q):lv.wh q<=lv.wh p:=by
 have:=Y8v h q (q-p).toNat
 rw[show q-((q-p).toNat:Int)=p by omega] at this
 exact this
theorem C0a{lv:Lv}{L:Int}(h:lv.Ps)(l:lv.Ld L)(q:Int):(lv.wh q<1↔L<q)/\(10<=lv.wh q↔q<L):=by
 have t1:=C1m h (L+1)
 rw[show L+1-1=L by omega] at t1
 have t2:=C1m h L
 have:=l.a;have:=l.b
 refine⟨⟨fun z=>Classical.byContradiction fun c=>?_,fun z=>?_⟩,fun z=>Classical.byContradiction fun c=>?_,fun z=>?_⟩
 . have:=G2z h (show q<=L by omega);omega
 . have:=G2z h (show L+1<=q by omega);omega
 . have:=G2z h (show L<=q by omega);omega
 . have:=G2z h (show q<=L-1 by omega);omega
theorem U7p(c:Bool):(0:Int)<=(if c=true then 1 else 0)/\(if c=true then(1:Int) else 0)<=1:=by cases c<;>decide
noncomputable def Lv.Le:Lv ->Lv ->Prop
 | .rat t b n,.rat t' b' n'=>t<=t'/\b'=b/\n'=n
 | .roo t n,.roo t' n'=>t<=t'/\n'=n
 |_,_=>False
theorem U9g{lv lv':Lv}(e:lv.Le lv')(w q:Int):lv'.one w q=lv.one w q/\lv'.mA w q=lv.mA w q/\lv.oth q<=lv'.oth q/\lv.mB q<=lv'.mB q:=by
 cases lv with
 | rat t b n=>
   cases lv' with
   | rat t' b' n'=>
     obtain⟨h,rfl,rfl⟩:=e
     have a:t*A1 (n'-q)<=t'*A1 (n'-q):=Int.mul_le_mul_of_nonneg_right h (Int.le_of_lt (B8 _))
     exact⟨rfl,rfl,a,by show 2*(t*A1 (n'-q))<=2*(t'*A1 (n'-q));omega⟩
   |roo t' n'=>exact e.elim
 | roo t n=>
   cases lv' with
   |rat t' b' n'=>exact e.elim
   | roo t' n'=>
     obtain⟨h,rfl⟩:=e
     have a:t*A1 (n'-2*q)<=t'*A1 (n'-2*q):=Int.mul_le_mul_of_nonneg_right h (Int.le_of_lt (B8 _))
     exact⟨rfl,rfl,a,by show 4*(t*A1 (n'-2*q))<=4*(t'*A1 (n'-2*q));omega⟩
theorem Y8p{lv lv':Lv}(h:lv.Ps)(h':lv'.Ps)(e:lv.Le lv')(q:Int):lv.wh q<=lv'.wh q/\(lv.wh q=lv'.wh q ->lv.pt q<=lv'.pt q):=by
 have p:=U9g e (lv.wh q) q
 have w0:=lv.wh_0 h q
 refine⟨(A8a h' w0 q).mp ?_,fun z=>?_⟩
 . have:=(A8a h w0 q).mpr (Int.le_refl _)
   rw[p.1]
   omega
 . have a:=(A8a h w0 q).mpr (Int.le_refl _)
   rw[G2v h,G2v h', <-z,p.1,p.2.1]
   have p3:=p.2.2.1
   have p4:=p.2.2.2
   generalize lv.one (lv.wh q) q=x at*
   generalize lv.mA (lv.wh q) q=A at*
   generalize lv.oth q=y at*
   generalize lv'.oth q=y' at*
   generalize lv.mB q=B at*
   generalize lv'.mB q=B' at*
   unfold ptC
   by_cases c:x=y
   . rw[if_pos c]
     split
     . omega
     . split<;>split<;>omega
   . rw[if_neg c,if_neg (show¬x=y' by omega)]
     rcases(show A<B\/A=B\/B<A by omega) with d|d|d
     . rw[decide_eq_true d,decide_eq_true (show A<=B by omega),decide_eq_true (show A<B' by omega),decide_eq_true (show A<=B' by omega)]
       exact Int.le_refl _
     . rw[decide_eq_false (show¬A<B by omega),decide_eq_true (show A<=B by omega),decide_eq_true (show A<=B' by omega)]
       have:=U7p (decide (A<B'))
       show(1:Int)+1+0<=1+1+_
       omega
     . rw[decide_eq_false (show¬A<B by omega),decide_eq_false (show¬A<=B by omega)]
       have:=U7p (decide (A<B'))
       have:=U7p (decide (A<=B'))
       show(1:Int)+0+0<=1+_+_
       omega
theorem G2u(i:Int):∀(n:Nat) (f p:Int),f≠0 ->(U6 i n f p).1≠0
 |0,f,p,h=>h
 | n+1,f,p,h=>by
   unfold U6
   split
   . exact G2u i n (f/10) (p+1) (by omega)
   . exact h
theorem J7e(i:Int):∀(n:Nat) (f p:Int),0<=f ->0<=(U6 i n f p).1
 |0,f,p,h=>h
 | n+1,f,p,h=>by
   unfold U6
   split
   . exact J7e i n (f/10) (p+1) (by omega)
   . exact h
theorem J6s(i:Int):∀(n:Nat) (f p:Int),(U6 i n f p).1*A1 ((U6 i n f p).2-p)=f/\p<=(U6 i n f p).2
 |0,f,p=>⟨by show f*A1 (p-p)=f;rw[A0e (by omega),Int.mul_one],Int.le_refl _⟩
 | n +1,f,p=>by
   unfold U6
   split
   . rename_i hf
     obtain⟨a,b⟩:=J6s i n (f/10) (p+1)
     refine⟨?_,by omega⟩
     rw[show(U6 i n (f/10) (p+1)).2-p=1+((U6 i n (f/10) (p+1)).2-(p+1)) by omega,Y4 (by omega) (by omega),show A1 1=10 from rfl,Int.mul_left_comm,a]
     omega
   . exact⟨by show f*A1 (p-p)=f;rw[A0e (by omega),Int.mul_one],Int.le_refl _⟩
structure NearOk(r q U f P:Int):Prop where
 e:f*A1 (P-q)=U
 hq:q<=P
 f0:0<=f
 f1:f<A1 r
 z:U=0 ->f=0/\P=q
 nz:0<U ->0<f
theorem B4t(y:Wy)(s w pt:Int):w<=upI y s w pt/\upI y s w pt<=w+1/\(pt=0 ->upI y s w pt=w):=by
 unfold upI
 refine⟨?_,?_,fun z=>?_⟩
 . split<;>omega
 . split<;>omega
 . rw[if_pos z,if_neg Bool.false_ne_true]
theorem U6j{r:Int}(h:1<=r):A1 r=A1 (r-1)*10:=by
 have:=Y4 (show 0<=r-1 by omega) (show(0:Int)<=1 by decide)
 rw[show r-1+1=r by omega] at this
 exact this
theorem Y5v{v:Cv}{s w pt q i:Int}(r1:1<=v.r)(w0:0<=w)(w1:w<A1 v.r)(hp:pt=0 ->0<w):NearOk v.r q (upI v.y s w pt) (Y8 v s w pt q i).1 (Y8 v s w pt q i).2:=by
 obtain⟨a,b,c⟩:=B4t v.y s w pt
 by_cases h:pt=0
 . rw[c h]
   unfold Y8
   rw[if_pos h]
   obtain⟨x,y⟩:=J6s i (i-q).toNat w q
   have z:=G2u i (i-q).toNat w q (by have:=hp h;omega)
   have z0:=J7e i (i-q).toNat w q w0
   have fl:(U6 i (i-q).toNat w q).1<=w:=by
     have t:=B8 ((U6 i (i-q).toNat w q).2-q)
     have:(U6 i (i-q).toNat w q).1*1<=(U6 i (i-q).toNat w q).1*A1 ((U6 i (i-q).toNat w q).2-q):=Int.mul_le_mul_of_nonneg_left (by omega) z0
     omega
   exact⟨x,y,z0,by show(U6 i (i-q).toNat w q).1<_;omega,fun e=>absurd e (by have:=hp h;omega),fun _=>by show 0<(U6 i (i-q).toNat w q).1;omega⟩
 . unfold Y8
   rw[if_neg h]
   generalize upI v.y s w pt=U at*
   have e:=U6j r1
   have tp:=B8 (v.r-1)
   unfold C9x
   by_cases g:U=A1 v.r
   . rw[if_pos g]
     refine⟨?_,by show q<=q+1;omega,by show 0<=U/10;omega,by show U/10<A1 v.r;omega,fun z=>by omega,fun z=>by show 0<U/10;omega⟩
     show U/10*A1 (q+1-q)=U
     rw[show q+1-q=1 by omega,show A1 1=10 from rfl]
     omega
   . rw[if_neg g]
     refine⟨?_,Int.le_refl _,by show 0<=U;omega,by show U<A1 v.r;omega,fun z=>⟨z,rfl⟩,fun z=>z⟩
     show U*A1 (q-q)=U
     rw[A0e (by omega),Int.mul_one]
theorem C0s{f:Int}(h:0<f):∀k:Nat,G8 (f*A1 k)=G8 f+k
 | 0=>by
   rw[A0e (show((0:Nat):Int)<=0 by decide),Int.mul_one]
   simp
 | k +1=>by
   have t:=Y4 (show 0<=(k:Int) by omega) (show(0:Int)<=1 by decide)
   have e:f*A1 ((k+1:Nat):Int)=f*A1 k*10:=by
     rw[show((k+1:Nat):Int)=(k:Int)+1 by omega,t, <-Int.mul_assoc]
     rfl
   have p:0<f*A1 k:=Int.mul_pos h (B8 _)
   rw[e,Y4b (by omega),Int.mul_ediv_cancel _ (by decide),C0s h k]
   omega
theorem NearOk.fig{r q U f P:Int}(h:NearOk r q U f P)(u:0<U):G8 U+q=G8 f+P:=by
 have e:=C0s (h.nz u) (P-q).toNat
 have hq:=h.hq
 rw[show((P-q).toNat:Int)=P-q by omega,h.e] at e
 omega
theorem NearOk.beyond{r q U f P m:Int}(h:NearOk r q U f P)(u0:0<=U):U0 m f P=true↔G8 U-1+q>m/\U>0:=by
 unfold U0
 rcases(show U=0\/0<U by omega) with e|e
 . rw[if_pos (h.z e).1]
   exact⟨fun z=>absurd z Bool.false_ne_true,fun z=>by omega⟩
 . have:=h.fig e
   have:=h.nz e
   rw[if_neg (by omega),decide_eq_true_iff]
   omega
structure SetOk(v:Cv)(s:Int)(lv:Lv):Prop where
 ok:v.Ok
 s0:0<=s
 s1:s<=1
 ps:lv.Ps
 ld:lv.Ld lv.L
 w1:lv.wh (v.fin lv.L)<A1 v.r
theorem SetOk.w0{v:Cv}{s:Int}{lv:Lv}(h:SetOk v s lv):0<=lv.wh (v.fin lv.L):=lv.wh_0 h.ps _
theorem SetOk.hp{v:Cv}{s:Int}{lv:Lv}(h:SetOk v s lv):lv.pt (v.fin lv.L)=0 ->0<lv.wh (v.fin lv.L):=fun z=>by
 rcases(show lv.wh (v.fin lv.L)=0\/0<lv.wh (v.fin lv.L) by have:=h.w0;omega) with e|e
 . exfalso
   have a:=(Y9y h.ps (v.fin lv.L)).mpr z
   rw[e] at a
   have ps:=h.ps
   cases lv with
   | rat t b n=>
     have q:(0:Int)*b*A1 (v.fin (Lv.L (.rat t b n))-n)=t*A1 (n-v.fin (Lv.L (.rat t b n))):=a
     rw[Int.zero_mul,Int.zero_mul] at q
     have:=Int.mul_pos (show 0<t by have:=ps.1;omega) (B8 (n-v.fin (Lv.L (.rat t b n))))
     omega
   | roo t n=>
     have q:(0:Int)*0*1*A1 (2*v.fin (Lv.L (.roo t n))-n)=t*A1 (n-2*v.fin (Lv.L (.roo t n))):=a
     rw[show(0:Int)*0*1=0 from rfl,Int.zero_mul] at q
     have:=Int.mul_pos (show 0<t by have ps:1<=t:=ps;omega) (B8 (n-2*v.fin (Lv.L (.roo t n))))
     omega
 . exact e
noncomputable def upL (v:Cv) (s:Int) (lv:Lv):Int:=upI v.y s (lv.wh (v.fin lv.L)) (lv.pt (v.fin lv.L))
noncomputable def neL (v:Cv) (s:Int) (lv:Lv) (i:Int):Int×Int:=Y8 v s (lv.wh (v.fin lv.L)) (lv.pt (v.fin lv.L)) (v.fin lv.L) i
theorem SetOk.near{v:Cv}{s:Int}{lv:Lv}(h:SetOk v s lv)(i:Int):NearOk v.r (v.fin lv.L) (upL v s lv) (neL v s lv i).1 (neL v s lv i).2:=Y5v h.ok.r1 h.w0 h.w1 h.hp
theorem SetOk.up0{v:Cv}{s:Int}{lv:Lv}(h:SetOk v s lv):0<=upL v s lv/\upL v s lv<=A1 v.r:=by
 have a:=B4t v.y s (lv.wh (v.fin lv.L)) (lv.pt (v.fin lv.L))
 have:=h.w0;have:=h.w1
 unfold upL
 omega
theorem B4j(v:Cv)(s:Int)(lv:Lv)(i:Int):setL v s lv i=if U0 v.m (neL v s lv i).1 (neL v s lv i).2=true then((V7 v s,["burst","off","cut"]):Nm×List Str) else(⟨.plain,s,(neL v s lv i).1,(neL v s lv i).2⟩,Y3 (lv.pt (v.fin lv.L)) (decide ((neL v s lv i).2>i))++V6 v.l lv.L (lv.pt (v.fin lv.L))):=rfl
theorem C1e{v:Cv}(L:Int):v.fin L=(if v.l>L then v.l else L)-v.r+1:=by
 unfold Cv.fin B2b
 split<;>split<;>omega
theorem G2x{v:Cv}(ok:v.Ok)(L:Int):v.l-v.r+1<=v.fin L/\L-v.r+1<=v.fin L/\(v.fin L=v.l-v.r+1\/v.fin L=L-v.r+1):=by
 rw[C1e]
 split<;>omega
theorem SetOk.low{v:Cv}{s:Int}{lv:Lv}(h:SetOk v s lv)(z:upL v s lv=0):v.fin lv.L=v.l-v.r+1:=by
 have a:=B4t v.y s (lv.wh (v.fin lv.L)) (lv.pt (v.fin lv.L))
 have b:=(C0a h.ps h.ld (v.fin lv.L)).1.mp (by unfold upL at z;have:=h.w0;omega)
 have c:=G2x h.ok lv.L
 have:=h.ok.r1
 omega
theorem C0h{f r:Int}(f0:0<f)(f1:f<A1 r)(hr:r<=24):1<=G8 f/\G8 f<=r/\A1 (G8 f-1)<=f/\f<A1 (G8 f):=by
 have f2:f<=10^60-1:=by
   have a:=D8 (show r<=60 by omega)
   have b:A1 60=10^60:=by decide+kernel
   omega
 have b:=G8n (Y9p (by omega) (by omega) f2)
 refine⟨b.2.2,Classical.byContradiction fun z=>?_,b.1,b.2.1⟩
 have:=D8 (show r<=G8 f-1 by omega)
 omega
theorem G2r{v:Cv}{s f p L q:Int}(hq:q<=p)(hb:U0 v.m f p=false):B1m v s (f*A1 (p-q)) 0 L q p=((⟨.plain,s,f,p⟩,V6 v.l L 0):Nm×List Str):=by
 have e:Y8 v s (f*A1 (p-q)) 0 q p=(f,p):=by
   unfold Y8
   rw[if_pos rfl]
   unfold A1c
   have z:∀(k:Nat) (g u:Int),U6 p k (g*((10^k:Nat):Int)) u=(g,u+k):=by
     intro k
     induction k with
     |zero=>intro g u;show(g*((1:Nat):Int),u)=(g,u+((0:Nat):Int));simp
     | succ k ih=>
       intro g u
       have e:g*((10^(k+1):Nat):Int)=g*((10^k:Nat):Int)*10:=by rw[Nat.pow_succ,Int.natCast_mul,Int.mul_assoc];rfl
       unfold U6
       rw[e,if_pos (by omega),Int.mul_ediv_cancel _ (by decide),ih]
       congr 1
       omega
   unfold A1
   rw[z]
   congr 1
   omega
 unfold B1m
 rw[e]
 dsimp only
 rw[hb,if_neg Bool.false_ne_true]
 unfold Y3
 rw[if_pos rfl,show decide (p>p)=false from decide_eq_false (by omega),if_neg Bool.false_ne_true]
 rfl
structure Std(v:Cv)(x:Nm):Prop where
 s0:0<=x.s
 s1:x.s<=1
 f0:0<=x.f
 f1:x.f<A1 v.r
 k:x.k= .plain\/(x.k= .end_/\x.f=0/\x.p=0)
 p:x.k= .plain ->v.l-v.r+1<=x.p/\x.p<=v.m/\U0 v.m x.f x.p=false
theorem SetOk.std{v:Cv}{s:Int}{lv:Lv}(h:SetOk v s lv)(i:Int):Std v (setL v s lv i).1:=by
 have r1:=h.ok.r1;have r2:=h.ok.r2;have l1:=h.ok.l1;have l2:=h.ok.l2;have m1:=h.ok.m1;have m2:=h.ok.m2
 have n:=h.near i
 have u0:=h.up0
 have tp:=B8 v.r
 rw[B4j]
 by_cases b:U0 v.m (neL v s lv i).1 (neL v s lv i).2=true
 . rw[if_pos b]
   show Std v (V7 v s)
   unfold V7
   cases v.y.toEnd s with
   |true=>exact⟨h.s0,h.s1,Int.le_refl _,tp,.inr ⟨rfl,rfl,rfl⟩,fun z=>by cases z⟩
   | false=>
     refine⟨h.s0,h.s1,by show 0<=A1 v.r-1;omega,by show A1 v.r-1<A1 v.r;omega,.inl rfl,fun _=>⟨by show v.l-v.r+1<=v.m-v.r+1;omega,by show v.m-v.r+1<=v.m;omega,?_⟩⟩
     have t10:10<=A1 v.r:=D2k r1
     have fb:=C0h (f:=A1 v.r-1) (r:=v.r) (by omega) (by omega) r2
     show U0 v.m (A1 v.r-1) (v.m-v.r+1)=false
     unfold U0
     rw[if_neg (by omega)]
     exact decide_eq_false (by omega)
 . rw[if_neg b]
   refine⟨h.s0,h.s1,n.f0,n.f1,.inl rfl,fun _=>?_⟩
   show v.l-v.r+1<=(neL v s lv i).2/\(neL v s lv i).2<=v.m/\U0 v.m (neL v s lv i).1 (neL v s lv i).2=false
   have b:=Bool.eq_false_iff.mpr b
   have fb:=G2x h.ok lv.L
   have nq:=n.hq
   refine⟨by omega,?_,b⟩
   rcases(show upL v s lv=0\/0<upL v s lv by omega) with e|e
   . have:=(n.z e).2
     have:=h.low e
     omega
   . have nz:=n.nz e
     have g:=C0h nz n.f1 r2
     unfold U0 at b
     rw[if_neg (by omega)] at b
     have:=of_decide_eq_false b
     omega
theorem Std.lead{v:Cv}{x:Nm}(h:Std v x)(ok:v.Ok)(f:x.f≠0):A1j x.f 1 (x.p-(x.p+G8 x.f-1)):=by
 have g:=C0h (show 0<x.f by have:=h.f0;omega) h.f1 ok.r2
 rw[show x.p-(x.p+G8 x.f-1)=1-G8 x.f by omega]
 unfold A1j
 rw[A0e (show 1-G8 x.f<=0 by omega),Int.mul_one,Int.one_mul,show -(1-G8 x.f)=G8 x.f-1 by omega]
 have:=U6j g.1
 omega
theorem Std.again{v:Cv}{x:Nm}(h:Std v x)(ok:v.Ok):∃ns,B5v v x (x.p+G8 x.f-1)=(x,ns)/\(ns=[]\/ns=(["faint"]:List Str)):=by
 have r1:=ok.r1;have r2:=ok.r2
 rcases x with⟨k,s,f,p⟩
 rcases h.k with e|⟨e,_,_⟩
 . have e:k= .plain:=e
   subst e
   obtain⟨p1,p2,pb⟩:=h.p rfl
   have p1:v.l-v.r+1<=p:=p1
   have p2:p<=v.m:=p2
   have pb:U0 v.m f p=false:=pb
   show∃ns,(if f=0 then((⟨.plain,s,0,A1m (B2b p (v.l-v.r+1)) v.m⟩,[]):Nm×List Str) else B4u v s f 1 p (p+G8 f-1) p)=_/\_
   by_cases z:f=0
   . rw[if_pos z]
     refine⟨[],?_,.inl rfl⟩
     have:A1m (B2b p (v.l-v.r+1)) v.m=p:=by
       unfold A1m B2b
       rw[if_neg (show¬v.l-v.r+1>p by omega),if_neg (by omega)]
     rw[this,z]
   . rw[if_neg z]
     have fp:0<f:=by have:0<=f:=h.f0;omega
     have g:=C0h fp h.f1 r2
     have q:v.fin (p+G8 f-1)<=p:=by
       rw[C1e]
       split<;>omega
     refine⟨V6 v.l (p+G8 f-1) 0,?_,?_⟩
     . unfold B4u
       generalize v.fin (p+G8 f-1)=Q at q
       have ew:whI f 1 (p-Q)=f*A1 (p-Q):=by
         unfold whI
         rw[A0e (show -(p-Q)<=0 by omega),Int.mul_one,Int.ediv_one]
       have ep:ptI f 1 (p-Q)=0:=by
         unfold ptI
         rw[ew,A0e (show -(p-Q)<=0 by omega),Int.mul_one,Int.mul_one,Int.sub_self]
         exact U7w rfl (by decide)
       rw[ew,ep]
       exact G2r q pb
     . unfold V6
       split
       . exact .inl rfl
       . rw[if_pos rfl];exact .inr rfl
 . have e:k= .end_:=e
   subst e
   exact⟨[],rfl,.inl rfl⟩
theorem Y6e(y:Wy)(s a:Int){p p':Int}(h0:p≠0)(h1:p<=p')(h2:p'<=3)(h3:0<=p):y.goes s a p=true ->y.goes s a p'=true:=by
 rcases(show p=p'\/p<p' by omega) with e|e
 . subst e;exact id
 . cases y with
   |down=>exact id
   |up=>exact id
   |floor=>exact id
   |ceiling=>exact id
   | halfUp=>
     intro z
     have z:decide (p>=2)=true:=z
     have:=of_decide_eq_true z
     exact decide_eq_true (show p'>=2 by omega)
   | halfDown=>
     intro z
     have:=V.int.inj (of_decide_eq_true (show decide (V.int p=V.int 3)=true from z))
     omega
   | halfEven=>
     intro z
     rcases(show p'=3\/(p=1/\p'=2) by omega) with e3|⟨ea,eb⟩
     . subst e3;rfl
     . subst ea
       exact absurd z (by show¬false=true;exact Bool.false_ne_true)
   |fiveUp=>exact id
theorem Z5x(y:Wy)(s w:Int){p p':Int}(h0:0<=p)(h1:p<=p')(h2:p'<=3):upI y s w p<=upI y s w p':=by
 by_cases z:p=0
 . rw[(B4t y s w p).2.2 z]
   exact(B4t y s w p').1
 . unfold upI
   rw[if_neg z,if_neg (show¬p'=0 by omega)]
   by_cases g:y.goes s (w % 10) p=true
   . rw[if_pos g,if_pos (Y6e y s _ z h1 h2 h0 g)]
     exact Int.le_refl _
   . rw[if_neg g]
     split<;>omega
theorem J6p{lv:Lv}(h:lv.Ps)(q:Int):∀d:Nat,lv.wh q*A1 d<=lv.wh (q-d)
 |0=>by rw[show q-((0:Nat):Int)=q by omega,A0e (by decide),Int.mul_one];exact Int.le_refl _
 | d+1=>by
   have a:=J6p h q d
   have b:=C1m h (q-d)
   have c:=lv.wh_0 h (q-d-1)
   have t:=Y4 (show 0<=(d:Int) by omega) (show(0:Int)<=1 by decide)
   rw[show q-((d+1:Nat):Int)=q-d-1 by omega,show((d+1:Nat):Int)=(d:Int)+1 by omega,t, <-Int.mul_assoc,show A1 1=10 from rfl]
   omega
theorem Z7h{lv lv':Lv}(h:lv.Ps)(h':lv'.Ps)(e:lv.Le lv'){L L':Int}(a:lv.Ld L)(b:lv'.Ld L'):L<=L':=by
 apply Classical.byContradiction
 intro z
 have c:=(C0a h' b L).1.mpr (by omega)
 have d:=(Y8p h h' e L).1
 have:=a.a
 omega
theorem Z1f{v:Cv}{s:Int}{lv lv':Lv}(h:SetOk v s lv)(h':SetOk v s lv')(e:lv.Le lv'):v.fin lv.L<=v.fin lv'.L/\upL v s lv<=upL v s lv'*A1 (v.fin lv'.L-v.fin lv.L):=by
 have l:=Z7h h.ps h'.ps e h.ld h'.ld
 have a:=G2x h.ok lv.L
 have b:=G2x h.ok lv'.L
 have r1:=h.ok.r1
 have qq:v.fin lv.L<=v.fin lv'.L:=by
   rw[C1e,C1e]
   split<;>split<;>omega
 refine⟨qq,?_⟩
 rcases(show v.fin lv.L=v.fin lv'.L\/v.fin lv.L<v.fin lv'.L by omega) with c|c
 . rw[A0e (by omega),Int.mul_one]
   unfold upL
   rw[<-c]
   have w:=Y8p h.ps h'.ps e (v.fin lv.L)
   rcases(show lv.wh (v.fin lv.L)=lv'.wh (v.fin lv.L)\/lv.wh (v.fin lv.L)<lv'.wh (v.fin lv.L) by omega) with d|d
   . rw[<-d]
     exact Z5x _ _ _ (U9d lv _ h.ps).1 (w.2 d) (U9d lv' _ h'.ps).2
   . have:=B4t v.y s (lv.wh (v.fin lv.L)) (lv.pt (v.fin lv.L))
     have:=B4t v.y s (lv'.wh (v.fin lv.L)) (lv'.pt (v.fin lv.L))
     omega
 . have u1:=h.up0.2
   have g:=J6p h'.ps lv'.L (v.r-1).toNat
   have eq:lv'.L-((v.r-1).toNat:Int)=v.fin lv'.L:=by omega
   rw[eq,show((v.r-1).toNat:Int)=v.r-1 by omega] at g
   have la:=h'.ld.a
   have g1:1*A1 (v.r-1)<=lv'.wh lv'.L*A1 (v.r-1):=Int.mul_le_mul_of_nonneg_right la (Int.le_of_lt (B8 _))
   have u2:lv'.wh (v.fin lv'.L)<=upL v s lv':=(B4t v.y s _ _).1
   have t:=D2k (d:=v.fin lv'.L-v.fin lv.L) (by omega)
   have g2:A1 (v.r-1)*10<=upL v s lv'*A1 (v.fin lv'.L-v.fin lv.L):=Int.mul_le_mul (by omega) t (by decide) (by have:=h'.up0.1;omega)
   rw[U6j r1] at u1
   omega
noncomputable def wlB (x y:Nm):Bool:=if x.k= .end_\/y.k= .end_ then decide (x.k= .end_/\y.k≠ .end_) else decide (x.f*A1 (x.p-A1m x.p y.p)>y.f*A1 (y.p-A1m x.p y.p))
theorem U8c(a b:Int):A1m a b<=a/\A1m a b<=b:=by
 unfold A1m
 split<;>omega
theorem J7u{f p f' p' d:Int}(k k':Kd)(s s':Int)(hk:k= .plain)(hk':k'= .plain)(d1:d<=p)(d2:d<=p')(h:f*A1 (p-d)<=f'*A1 (p'-d)):wlB ⟨k,s,f,p⟩ ⟨k',s',f',p'⟩=false:=by
 subst hk hk'
 unfold wlB
 rw[if_neg (by simp)]
 refine decide_eq_false ?_
 show¬f*A1 (p-A1m p p')>f'*A1 (p'-A1m p p')
 have m:=U8c p p'
 have hc:d<=A1m p p':=by unfold A1m;split<;>omega
 generalize A1m p p'=c at*
 have e:∀g u:Int,c<=u ->g*A1 (u-d)=g*A1 (u-c)*A1 (c-d):=fun g u hu=>by
   rw[show u-d=(u-c)+(c-d) by omega,Y4 (by omega) (by omega), <-Int.mul_assoc]
 rw[e f p m.1,e f' p' m.2] at h
 have:=Int.le_of_mul_le_mul_right h (B8 _)
 omega
theorem Z6x{v:Cv}{s i:Int}{lv lv':Lv}(h:SetOk v s lv)(h':SetOk v s lv')(e:lv.Le lv'):wlB (setL v s lv i).1 (setL v s lv' i).1=false:=by
 obtain⟨qq,uo⟩:=Z1f h h' e
 have n:=h.near i
 have n':=h'.near i
 have r1:=h.ok.r1;have r2:=h.ok.r2
 have u0:=h.up0.1
 have u0':=h'.up0.1
 have tq:=B8 (v.fin lv'.L-v.fin lv.L)
 rw[B4j,B4j]
 by_cases b:U0 v.m (neL v s lv i).1 (neL v s lv i).2=true
 . have bb:=(n.beyond u0).mp b
   have up':0<upL v s lv':=by
     rcases(show upL v s lv'=0\/0<upL v s lv' by omega) with z|z
     . rw[z,Int.zero_mul] at uo
       omega
     . exact z
   have b':U0 v.m (neL v s lv' i).1 (neL v s lv' i).2=true:=by
     refine(n'.beyond u0').mpr ⟨?_,up'⟩
     have fe:=C0s up' (v.fin lv'.L-v.fin lv.L).toNat
     rw[show((v.fin lv'.L-v.fin lv.L).toNat:Int)=v.fin lv'.L-v.fin lv.L by omega] at fe
     have sz:∀{x:Int},0<x ->x<=A1 v.r*A1 (v.fin lv'.L-v.fin lv.L) ->True:=fun _ _=>trivial
     have f1:=C0h (n'.nz up') n'.f1 r2
     have ff:=n'.fig up'
     have f2:=C0h (n.nz bb.2) n.f1 r2
     have ff2:=n.fig bb.2
     apply Classical.byContradiction
     intro z
     have lead1:A1 (G8 (neL v s lv i).1-1)*A1 ((neL v s lv i).2-v.fin lv.L)<=upL v s lv:=by
       rw[<-n.e]
       exact Int.mul_le_mul_of_nonneg_right f2.2.2.1 (Int.le_of_lt (B8 _))
     have lead2:upL v s lv'*A1 (v.fin lv'.L-v.fin lv.L)<A1 (G8 (neL v s lv' i).1)*A1 ((neL v s lv' i).2-v.fin lv'.L)*A1 (v.fin lv'.L-v.fin lv.L):=by
       refine Int.mul_lt_mul_of_pos_right ?_ tq
       rw[<-n'.e]
       exact Int.mul_lt_mul_of_pos_right f1.2.2.2 (B8 _)
     have nq:=n.hq
     have nq':=n'.hq
     rw[<-Y4 (by omega) (by omega)] at lead1
     rw[<-Y4 (by omega) (by omega), <-Y4 (by omega) (by omega)] at lead2
     have:=D8 (show G8 (neL v s lv' i).1+((neL v s lv' i).2-v.fin lv'.L)+(v.fin lv'.L-v.fin lv.L)<=G8 (neL v s lv i).1-1+((neL v s lv i).2-v.fin lv.L) by omega)
     omega
   rw[if_pos b,if_pos b']
   show wlB (V7 v s) (V7 v s)=false
   unfold V7
   cases v.y.toEnd s with
   |true=>rfl
   |false=>exact J7u _ _ _ _ rfl rfl (Int.le_refl _) (Int.le_refl _) (Int.le_refl _)
 . rw[if_neg b]
   have st:=h.std i
   rw[B4j,if_neg b] at st
   have bf:=Bool.eq_false_iff.mpr b
   by_cases b':U0 v.m (neL v s lv' i).1 (neL v s lv' i).2=true
   . rw[if_pos b']
     show wlB ⟨.plain,s,(neL v s lv i).1,(neL v s lv i).2⟩ (V7 v s)=false
     unfold V7
     cases v.y.toEnd s with
     |true=>rfl
     | false=>
       show wlB ⟨.plain,s,(neL v s lv i).1,(neL v s lv i).2⟩ ⟨.plain,s,A1 v.r-1,v.m-v.r+1⟩=false
       have n0:=n.f0
       have n1:=n.f1
       generalize (neL v s lv i).1=f at*
       generalize (neL v s lv i).2=p at*
       rcases(show p<=v.m-v.r+1\/v.m-v.r+1<p by omega) with c|c
       . refine J7u (d:=p) _ _ _ _ rfl rfl (Int.le_refl _) c ?_
         rw[A0e (show p-p<=0 by omega),Int.mul_one]
         have t:=B8 (v.m-v.r+1-p)
         have:(A1 v.r-1)*1<=(A1 v.r-1)*A1 (v.m-v.r+1-p):=Int.mul_le_mul_of_nonneg_left (by omega) (by have:=B8 v.r;omega)
         omega
       . refine J7u (d:=v.m-v.r+1) _ _ _ _ rfl rfl (by omega) (Int.le_refl _) ?_
         rw[A0e (show v.m-v.r+1-(v.m-v.r+1)<=0 by omega),Int.mul_one]
         rcases(show f=0\/0<f by omega) with z|z
         . rw[z,Int.zero_mul]
           have:=B8 v.r
           omega
         . have g:=C0h z n1 r2
           unfold U0 at bf
           rw[if_neg (by omega)] at bf
           have:=of_decide_eq_false bf
           have a:f*A1 (p-(v.m-v.r+1))<A1 (G8 f)*A1 (p-(v.m-v.r+1)):=Int.mul_lt_mul_of_pos_right g.2.2.2 (B8 _)
           rw[<-Y4 (by omega) (by omega)] at a
           have:=D8 (show G8 f+(p-(v.m-v.r+1))<=v.r by omega)
           omega
   . rw[if_neg b']
     have nq:=n.hq
     have nq':=n'.hq
     refine J7u (d:=v.fin lv.L) _ _ _ _ rfl rfl nq (by omega) ?_
     rw[n.e]
     have:(neL v s lv' i).1*A1 ((neL v s lv' i).2-v.fin lv.L)=upL v s lv'*A1 (v.fin lv'.L-v.fin lv.L):=by
       rw[<-n'.e,Int.mul_assoc, <-Y4 (by omega) (by omega)]
       congr 2
       omega
     rw[this]
     exact uo
noncomputable def rdS (zs:List Str):PyData:= .list (zs.map PyData.str)
noncomputable def OkL (zs:List Str):Prop:=zs.length<=100/\∀z∈zs,PyData.strOk z=true
theorem Z5b:∀{zs:List Str},(∀z∈zs,PyData.strOk z=true) ->PyData.canLayAll0 (zs.map PyData.str)=true/\PyData.depthAll (zs.map PyData.str)<=1
 | [],_=>by simp[PyData.canLayAll0,PyData.depthAll]
 | z ::zs,h=>by
   obtain⟨a,b⟩:=Z5b (zs:=zs) fun z' h'=>h z' (List.mem_cons_of_mem _ h')
   have c:=h z List.mem_cons_self
   constructor
   . simp[PyData.canLayAll0,PyData.canLay0,c,a]
   . simp only[List.map_cons,PyData.depthAll,PyData.depth]
     omega
theorem shS{zs:List Str}(h:OkL zs):SeqAt.shaped (rdS zs)=true:=by
 obtain⟨a,b⟩:=Z5b h.2
 unfold SeqAt.shaped rdS
 simp only[PyData.canLay0,PyData.depth,a,Bool.and_true,Bool.and_eq_true,decide_eq_true_eq,List.length_map]
 exact⟨trivial,decide_eq_true (by omega)⟩
theorem Z0t:∀zs:List Str,PyData.eqv (rdS zs) (rdS zs)=true:=by
 have h:∀zs:List Str,PyData.eqvAll (zs.map PyData.str) (zs.map PyData.str)=true:=fun zs=>by
   induction zs with
   |nil=>simp[PyData.eqvAll]
   |cons z zs ih=>simp[PyData.eqvAll,PyData.eqv,ih]
 intro zs
 simp[rdS,PyData.eqv,h]
theorem Z4n{K:Frag}{H:Hp}:∀zs:List Str,RdDs K H (zs.map V.str) (zs.map PyData.str)
 | []=> .nil
 |z::zs=> .cons (.str z) (Z4n zs)
theorem B5y{K:Frag}{H:Hp}{p:Addr}{zs:List Str}(h:H p=some (.lst (zs.map V.str))):RdD K H (.ref p) (rdS zs):= .lst (SqL.of h) (Z4n zs)
noncomputable def B9w (k:Str) (s f p:Int):PyData:= .tuple [.str k,.int s,.int f,.int p]
theorem shD{k:Str}(s f p:Int)(h:PyData.strOk k=true):SeqAt.shaped (B9w k s f p)=true:=by
 unfold SeqAt.shaped B9w
 simp[PyData.canLay0,PyData.canLayAll0,PyData.depth,PyData.depthAll,h]
theorem eqD(k:Str)(s f p:Int):PyData.eqv (B9w k s f p) (B9w k s f p)=true:=by
 simp[B9w,PyData.eqv,PyData.eqvAll]
theorem rdD{K:Frag}{H:Hp}{d:Addr}{k:Str}{s f p:Int}(h:H d=some (.tup [.str k,.int s,.int f,.int p])):RdD K H (.ref d) (B9w k s f p):= .tup (SqT.of h) (.cons (.str _) (.cons (.int _) (.cons (.int _) (.cons (.int _) .nil))))
theorem okK(k:Kd):PyData.strOk k.str=true:=by cases k<;>decide+kernel
noncomputable abbrev C1b:Stmt:=(top 62)
noncomputable def Cv.vs (v:Cv):List V:=[.int v.r,.str v.y.name,.int v.l,.int v.m]
theorem Same.put{H H':Hp}{l:Addr}{o:HO}(s:Same H H')(n:H l=none):Same H (upd H' l o):=fun z ob hz=>by
 rw[C9 (D0 hz n)]
 exact s _ _ hz
theorem G8r{z:Int}(h0:0<=z)(h:z<A1 200):Builtin.Int.intBits z<=2^20:=by
 obtain⟨n,rfl⟩:=Int.eq_ofNat_of_zero_le h0
 refine B9y (k:=4*200) ?_ (by decide)
 have:n<10^200:=Int.ofNat_lt.mp h
 exact Nat.lt_of_lt_of_le this (D2j 200)
theorem Y8w{a b:Int}(a0:0<=a)(a1:a<A1 200)(b0:0<=b)(b1:b<A1 200):IntMulOk a b:=IntMulOk.of_bits (G8r a0 a1) (G8r b0 b1)
theorem C1d{a s:Int}(a0:0<=a)(a1:a<A1 200)(h:s<=600):IntMulOk a (A1 s):=IntMulOk.of_bits (G8r a0 a1) (D0z (by omega))
theorem Y6g(s:Int): [V.int (if(0:Int)>s then 0 else s)]++ []=[V.int ((s.toNat:Nat):Int)]:=by rw[U8u];rfl
section
variable{P:Program}{w:World}{K:Frag}{mg:Str ->Option Value}{base:Heap}
noncomputable def U8t:Sp:=fun vs H Q _=>∃c:Int,vs=[.int c]/\∀t H',1<=t ->t<A1 27 ->Same H H' ->Q (.int t) H'
theorem scLTop:FnScope ["_law_cell","_law_size","_law_more","_law_some"] ["_law_cell"] (A2 C1b):=scK
theorem Y6k(D:Def K mg "_law_top" ["_law_cell"] C1b f fd)(dA:Def K mg "_law_ten" ["_law_count"] B2f f1 fd1)(dB:FnOk P w K mg base (CX1 P w) 1 f1 fd1 ["_law_count"] C1u):FnOk P w K mg base (CX1 P w) 2 f fd ["_law_cell"] U8t:=by
 refine D.F.okE scLTop (fun vs H Q E h=>?_) (fun X cdv A outer s H vs Q E hX hr hx h=>?_)
 . obtain⟨c,rfl,_⟩:=h
   rfl
 . subst hX
   obtain⟨c,rfl,k⟩:=h
   refine⟨_,(A4 (B7 (C5 (i:=1) scLTop.nd rfl (Or.inl rfl) (A7 D9 A3 (A7 J1 (A7 D5 (pv 0) A3) A3))))
     (A4 (B7 (C5 (i:=2) scLTop.nd rfl (Or.inl rfl) (A7 D9 A3 (A7 J1 (A7 D5 (pv 0) A3) A3))))
     (A4 (B7 (C5 (i:=3) scLTop.nd rfl (Or.inl rfl) (U5 (A0 (Y9j (A7 J1 (pv 2) A3) (Y7 A3)) (A0 (pv 2) (A0 (A7 D6 (pv 2) (C8 dA dB hr hx (A0 (pv 1) A5))) (A0 (A7 G9 (C8 dA dB hr hx (A0 (pv 1) A5)) A3) (A0 (A7 D6 A3 (C8 dA dB hr hx (A0 (pv 1) A5))) (A0 (A7 D9 (A7 D6 (pv 2) A3) A3) A5)))))))))
     (A4 (B7 (A2y (Y8t PySem.F.plainAttrs_list PySem.F.slot_list_append PySem.F.type_list_append B1h (pv 3) (A0 (A7 G9 (A7 D9 (A7 D6 (A7 D9 (A7 D6 A3 (pv 2)) A3) (C8 dA dB hr hx (A0 (pv 1) A5))) (A7 J1 (A7 D5 (pv 0) A3) A3)) A3) A5))))
     (A4 (B7 (A2y (Y8t PySem.F.plainAttrs_list PySem.F.slot_list_append PySem.F.type_list_append B1h (pv 3) (A0 (A7 D6 (A7 D6 (A7 D6 (A7 D6 (pv 2) A3) A3) (A7 D9 (pv 2) A3)) A3) A5))))
     (A6 (B3 (G7 A4s (pv 3) (A7 J1 (pv 0) A3) (fun _ _=>rfl))))))))),?_⟩
   have z6:6<=sizeLine:=C7 (by decide)
   have mC:∀z n:Int, -(2^64)<n ->n<2^64 ->IntMulOk z n:=fun z n a b=>CMul.ok (.inr ⟨a,b⟩)
   have nC:∀n z:Int, -(2^64)<n ->n<2^64 ->IntMulOk n z:=fun n z a b=>CMul.ok (.inl ⟨a,b⟩)
   refine⟨fun σ' H'=>∃z:Int,H'=H/\1<=z/\z<=12/\σ'=[some (.int c),some (.int z),none,none],⟨_,rfl,_,_,rfl,rfl,dv (n:=8) (by decide) (by decide+kernel),_,_,rfl,rfl,(by decide:(0:Int)<12),_,_,rfl,rfl,_,rfl,by omega,by omega,rfl⟩,?_⟩
   rintro σ' H1 ⟨z,rfl,z1,z2,rfl⟩
   refine⟨fun σ' H'=>∃g:Int,H'=H1/\1<=g/\g<=100000/\σ'=[some (.int c),some (.int z),some (.int g),none],⟨_,rfl,_,_,rfl,rfl,dv (n:=96) (by decide) (by decide+kernel),_,_,rfl,rfl,(by decide:(0:Int)<100000),_,_,rfl,rfl,_,rfl,by omega,by omega,rfl⟩,?_⟩
   rintro σ' H2 ⟨g,rfl,g1,g2,rfl⟩
   have t1:A1 1<=A1 z:=D8 z1
   have t2:A1 z<=A1 12:=D8 z2
   have e1:A1 1=10:=rfl
   have e12:A1 12=1000000000000:=by decide+kernel
   have e27:A1 27=1000000000000000000000000000:=by decide+kernel
   rw[e1] at t1
   rw[e12] at t2
   have gt:∀x:Int,1<=x ->x<=1000005 ->10<=x*A1 z/\x*A1 z<=1000005*1000000000000:=fun x a b=>by
     have p:1*10<=x*A1 z:=Int.mul_le_mul a t1 (by decide) (by omega)
     have q:x*A1 z<=1000005*1000000000000:=Int.mul_le_mul b t2 (by omega) (by decide)
     omega
   have tn2: [V.int z]++ []=[V.int ((z.toNat:Nat):Int)]:=by rw[Int.toNat_of_nonneg (by omega)];rfl
   have eT:((10^z.toNat:Nat):Int)=A1 z:=rfl
   refine⟨fun σ' H'=>∃(l:Addr) (xs:List Int),Same H2 H'/\H2 l=none/\H' l=some (.lst (xs.map V.int))/\xs.length=6/\(∀x∈xs,1<=x/\x<A1 27)/\σ'=[some (.int c),some (.int z),some (.int g),some (.ref l)],?_,?_⟩
   . refine⟨_,rfl,_,_,rfl,rfl,(by decide:(0:Int)<10),_,rfl,?_⟩
     have a2:=gt g g1 (by omega)
     by_cases z0:g % 10=0
     . rw[if_pos z0]
       refine⟨_,rfl,_,rfl,_,rfl,z.toNat,tn2,by omega,_,_,rfl,rfl,mC _ _ (by rw[eT];omega) (by rw[eT];omega),_,rfl,z.toNat,tn2,by omega,_,_,rfl,rfl,_,rfl,z.toNat,tn2,by omega,_,_,rfl,rfl,nC _ _ (by decide) (by decide),_,rfl,_,_,rfl,rfl,mC _ _ (by decide) (by decide),_,_,rfl,rfl,z6,fun l nl=>?_⟩
       rw[eT]
       refine⟨l,[1,g,g*A1 z,A1 z-1,5*A1 z,g*10+5],Same.upd nl,nl,A8,rfl,fun x hx=>?_,rfl⟩
       rw[e27]
       simp only[List.mem_cons,List.not_mem_nil,or_false] at hx
       rcases hx with rfl|rfl|rfl|rfl|rfl|rfl<;>omega
     . rw[if_neg z0]
       refine⟨_,rfl,_,rfl,_,rfl,z.toNat,tn2,by omega,_,_,rfl,rfl,mC _ _ (by rw[eT];omega) (by rw[eT];omega),_,rfl,z.toNat,tn2,by omega,_,_,rfl,rfl,_,rfl,z.toNat,tn2,by omega,_,_,rfl,rfl,nC _ _ (by decide) (by decide),_,rfl,_,_,rfl,rfl,mC _ _ (by decide) (by decide),_,_,rfl,rfl,z6,fun l nl=>?_⟩
       rw[eT]
       refine⟨l,[g % 10,g,g*A1 z,A1 z-1,5*A1 z,g*10+5],Same.upd nl,nl,A8,rfl,fun x hx=>?_,rfl⟩
       rw[e27]
       simp only[List.mem_cons,List.not_mem_nil,or_false] at hx
       rcases hx with rfl|rfl|rfl|rfl|rfl|rfl<;>omega
   rintro σ' H3 ⟨l,xs,s3,nl,el,len,all,rfl⟩
   refine⟨fun σ' H'=>∃xs:List Int,Same H2 H'/\H' l=some (.lst (xs.map V.int))/\xs.length=7/\(∀x∈xs,1<=x/\x<A1 27)/\σ'=[some (.int c),some (.int z),some (.int g),some (.ref l)],?_,?_⟩
   . refine⟨_,rfl,.inl ⟨rfl,_,SqL.of el⟩,_,rfl,_,_,rfl,rfl,nC _ _ (by decide) (by decide),_,_,rfl,rfl,_,rfl,z.toNat,tn2,by omega,_,_,rfl,rfl,mC _ _ (by rw[eT];omega) (by rw[eT];omega),_,rfl,_,_,rfl,rfl,dv (n:=7) (by decide) (by decide+kernel),_,_,rfl,rfl,(by decide:(0:Int)<3),_,_,rfl,rfl,_,_,rfl,rfl,l,_,_,rfl,rfl,el,V9 (by rw[List.length_map,len];decide),?_⟩
     have a2:=gt (10*g+5) (by omega) (by omega)
     refine⟨xs++ [(10*g+5)*A1 z+c/7 % 3-1],Same.put s3 nl,?_,by rw[List.length_append,len];rfl,fun x hx=>?_,rfl⟩
     . rw[A8,List.map_append]
       rfl
     . rcases List.mem_append.mp hx with h|h
       . exact all x h
       . rw[List.mem_singleton.mp h,e27]
         omega
   clear el len all xs s3 H3
   rintro σ' H3 ⟨xs,s3,el,len,all,rfl⟩
   refine⟨fun σ' H'=>∃xs:List Int,Same H2 H'/\H' l=some (.lst (xs.map V.int))/\xs.length=8/\(∀x∈xs,1<=x/\x<A1 27)/\σ'=[some (.int c),some (.int z),some (.int g),some (.ref l)],?_,?_⟩
   . have a3:1<=g*7919*104729*(g+48271)*15485863/\g*7919*104729*(g+48271)*15485863<1000000000000000000000000000:=by
       have p1:1*1<=g*7919*104729*(g+48271):=Int.mul_le_mul (by omega) (by omega) (by decide) (by omega)
       have p2:g*7919*104729*(g+48271)<=82934895100000*148271:=Int.mul_le_mul (by omega) (by omega) (by omega) (by decide)
       omega
     refine⟨_,rfl,.inl ⟨rfl,_,SqL.of el⟩,_,rfl,_,_,rfl,rfl,mC _ _ (by decide) (by decide),_,_,rfl,rfl,mC _ _ (by decide) (by decide),_,rfl,_,_,rfl,rfl,_,_,rfl,rfl,mC _ _ (by omega) (by omega),_,_,rfl,rfl,mC _ _ (by decide) (by decide),l,_,_,rfl,rfl,el,V9 (by rw[List.length_map,len];decide),?_⟩
     refine⟨xs++ [g*7919*104729*(g+48271)*15485863],Same.put s3 nl,?_,by rw[List.length_append,len];rfl,fun x hx=>?_,rfl⟩
     . rw[A8,List.map_append]
       rfl
     . rcases List.mem_append.mp hx with h|h
       . exact all x h
       . rw[List.mem_singleton.mp h,e27]
         exact a3
   clear el len all xs s3 H3
   rintro σ' H3 ⟨xs,s3,el,len,all,rfl⟩
   obtain⟨t,ht,ix⟩:=ixs (xs:=xs) (i:=c % 8) (Int.emod_nonneg _ (by decide)) (by rw[len];exact Int.emod_lt_of_pos _ (by decide))
   exact⟨_,rfl,_,rfl,_,_,rfl,rfl,(by decide:(0:Int)<8),l,_,_,_,rfl,rfl,SqL.of el,ix,k t H3 (all t ht).1 (all t ht).2 s3⟩
end
noncomputable abbrev A4t:Stmt:=(top 63)
noncomputable abbrev V8:Stmt:=(top 64)
theorem szT{t:Int}(h1:1<=t)(h2:t<A1 28):SzL t:=⟨h1,Int.lt_of_lt_of_le h2 (D8 (by decide))⟩
theorem C1y{t:Int}{n:Int}(h1:1<=t)(h2:t<A1 n)(hn:n<=28):1<=G8 t/\G8 t<=n:=by
 have b:=G8n (szT h1 (Int.lt_of_lt_of_le h2 (D8 hn))).sz
 refine⟨b.2.2,Classical.byContradiction fun z=>?_⟩
 have:=D8 (show n<=G8 t-1 by omega)
 omega
theorem b9{b:Int}(h:b<=1000000000):b<A1 10:=by
 have e:A1 10=10000000000:=by decide+kernel
 omega
theorem at3(a b c n:Int):∃v,(v=a\/v=b\/v=c)/\atI ([.int a,.int b,.int c]:List V) (n % 3)=some (.int v):=by
 rcases(by omega:n % 3=0\/n % 3=1\/n % 3=2) with h|h|h
 . exact⟨a,.inl rfl,by rw[h];exact C0 (j:=0) rfl⟩
 . exact⟨b,.inr (.inl rfl),by rw[h];exact C0 (j:=1) rfl⟩
 . exact⟨c,.inr (.inr rfl),by rw[h];exact C0 (j:=2) rfl⟩
noncomputable def Lv.ex:Lv ->List V
 | .rat t b n=>[.str "ratio",.int t,.int b,.int n]
 | .roo t n=>[.str "root",.int t,.int 1,.int n]
noncomputable def Lv.Xv:Lv ->Prop
 | .rat t b n=>(1<=t/\t<A1 28)/\(1<=b/\b<A1 10)/\ -120<=n/\n<=120
 | .roo t n=>(1<=t/\t<A1 28)/\ -200<=n/\n<=200
theorem Lv.Xv.ps{lv:Lv}(h:lv.Xv):lv.Ps:=by
 cases lv with
 |rat t b n=>exact⟨h.1.1,h.2.1.1⟩
 |roo t n=>exact h.1.1
noncomputable def Lv.ag (lv:Lv) (w q:Int):Int:=agI (lv.one w q) (lv.oth q)
section
variable{P:Program}{w:World}{K:Frag}{mg:Str ->Option Value}{base:Heap}
noncomputable def G3p:Sp:=fun vs H Q _=>∃c pq,∃v:Cv,vs=[.int c,.ref pq]/\H pq=some (.tup v.vs)/\v.Ok/\∀t b g q H',1<=t ->t<A1 27 ->1<=b ->b<=1000000000 -> -80<=g ->g<=80 ->Same H H' ->H' q=some (.tup [.int t,.int b,.int (g-G8 t+G8 b)]) ->Q (.ref q) H'
theorem scLValue:FnScope ["_law_cell","_law_parts","_law_top_here","_law_number","_law_bottom","_law_goal"] ["_law_cell","_law_parts"] (A2 A4t):=scK
theorem U0d(D:Def K mg "_law_value" ["_law_cell","_law_parts"] A4t f fd)(dA:Def K mg "_law_mixed" ["_law_cell","_law_k"] A8d f1 fd1)(dB:FnOk P w K mg base (CX1 P w) 1 f1 fd1 ["_law_cell","_law_k"] D2n)
   (dC:Def K mg "_law_top" ["_law_cell"] C1b f2 fd2) (dD:FnOk P w K mg base (CX1 P w) 2 f2 fd2 ["_law_cell"] U8t) (O:Own mg):FnOk P w K mg base (CX1 P w) 3 f fd ["_law_cell","_law_parts"] G3p:=by
 refine D.F.okE scLValue (fun vs H Q E h=>?_) (fun X cdv A outer s H vs Q E hX hr hx h=>?_)
 . obtain⟨c,pq,v,rfl,_⟩:=h
   rfl
 . subst hX
   obtain⟨c,pq,v,rfl,ev,ok,k⟩:=h
   refine⟨_,(A4 (B7 (C5 (i:=2) scLValue.nd rfl (Or.inl rfl) (C8 dC dD hr hx (A0 (C8 dA dB hr hx (A0 (pv 0) (A0 A3 A5))) A5))))
     (A4 (B7 (C5 (i:=3) scLValue.nd rfl (Or.inl rfl) (C8 dA dB hr hx (A0 (pv 0) (A0 A3 A5)))))
     (A4 (B7 (C5 (i:=4) scLValue.nd rfl (Or.inl rfl) (G7 A4s (U5 (A0 A3 (A0 A3 (A0 A3 (A0 A3 (A0 A3 (A0 A3 (A0 A3 (A0 (A7 D9 A3 (A7 J1 (A7 D5 (pv 3) A3) (A7 U9z A3 A3))) A5))))))))) (A7 J1 (A7 D5 (pv 3) A3) A3) (fun _ _=>rfl))))
     (A4 (B7 (C5 (i:=5) scLValue.nd rfl (Or.inl rfl) (G7 A4s (U5 (A0 (A7 G9 (G7 G2 (pv 1) A3 (fun _ _=>rfl)) (A7 J1 (A7 D5 (pv 3) A3) A3)) (A0 (A7 D9 (G7 G2 (pv 1) A3 (fun _ _=>rfl)) (A7 J1 (A7 D5 (pv 3) A3) A3)) (A0 (A7 G9 (G7 G2 (pv 1) A3 (fun _ _=>rfl)) (A7 J1 (A7 D5 (pv 3) A3) A3)) A5)))) (A7 J1 (pv 3) A3) (fun _ _=>rfl))))
     (A4 (B7 (C5 (i:=5) scLValue.nd rfl (Or.inl rfl) (G7 A4s (U5 (A0 (pv 5) (A0 (pv 5) (A0 (A7 D9 (G7 G2 (pv 1) A3 (fun _ _=>rfl)) (A7 J1 (A7 D5 (pv 3) A3) A3)) (A0 (A7 G9 (A7 J1 (A7 D5 (pv 3) A3) A3) A3) A5))))) (A7 J1 (A7 D5 (pv 3) A3) A3) (fun _ _=>rfl))))
     (A6 (B3 (Y1 (A0 (pv 2) (A0 (pv 4) (A0 (A7 D9 (A7 G9 (pv 5) (J2 U9 (by rfl) O.len_ PySem.boot_len (A0 (J8 U3 (by rfl) O.str_ boot_str (A0 (pv 2) A5)) A5))) (J2 U9 (by rfl) O.len_ PySem.boot_len (A0 (J8 U3 (by rfl) O.str_ boot_str (A0 (pv 4) A5)) A5))) A5))))))))))),?_⟩
   have r1:=ok.r1;have r2:=ok.r2;have l1:=ok.l1;have l2:=ok.l2;have m1:=ok.m1;have m2:=ok.m2
   have z3:3<=sizeLine:=C7 (by decide)
   have z4:4<=sizeLine:=C7 (by decide)
   have z8:8<=sizeLine:=C7 (by decide)
   have d64:=dv (n:=64) (by decide) (by decide+kernel)
   have p4:(0:Int)<4:=by decide
   refine⟨fun σ' H'=>∃t:Int,Same H H'/\1<=t/\t<A1 27/\σ'=[some (.int c),some (.ref pq),some (.int t),none,none,none],⟨_,rfl,c,1,rfl,by decide,by decide,fun m _ _=>⟨m,rfl,fun t H' t1 t2 s'=>⟨t,s',t1,t2,rfl⟩⟩⟩,?_⟩
   rintro σ' H1 ⟨t,s1,t1,t2,rfl⟩
   have ev1:=s1 _ _ ev
   refine⟨fun σ' H'=>∃n:Int,H'=H1/\σ'=[some (.int c),some (.ref pq),some (.int t),some (.int n),none,none],⟨_,rfl,c,2,rfl,by decide,by decide,fun m _ _=>⟨m,rfl,rfl⟩⟩,?_⟩
   rintro σ' H2 ⟨n,rfl,rfl⟩
   refine⟨fun σ' H'=>∃b:Int,Same H2 H'/\1<=b/\b<=1000000000/\σ'=[some (.int c),some (.ref pq),some (.int t),some (.int n),some (.int b),none],?_,?_⟩
   . obtain⟨b,hb,ix⟩:=ixs (xs:=[1,1,1,2,3,7,8,1+n/64 % 10^(9:Int).toNat]) (i:=n/8 % 8) (Int.emod_nonneg _ (by decide)) (by show n/8 % 8<8;exact Int.emod_lt_of_pos _ (by decide))
     have e9:(10:Int)^(9:Int).toNat=1000000000:=by decide+kernel
     have e0:=Int.emod_nonneg (n/64) (show(1000000000:Int)≠0 by decide)
     have e1:=Int.emod_lt_of_pos (n/64) (show(0:Int)<1000000000 by decide)
     refine⟨_,rfl,_,_,rfl,rfl,d64,_,_,rfl,rfl,⟨by decide,by decide,by decide⟩,_,_,rfl,rfl,(show(0:Int)<10^(9:Int).toNat by rw[e9];decide),_,_,rfl,rfl,z8,fun p np=>⟨_,rfl,_,_,rfl,rfl,dv (n:=8) (by decide) (by decide+kernel),_,_,rfl,rfl,(by decide:(0:Int)<8),p,_,_,_,rfl,rfl,SqL.of A8,ix,b,Same.upd np,?_,?_,rfl⟩⟩
     all_goals
       simp only[List.mem_cons,List.not_mem_nil,or_false] at hb
       rw[e9] at hb
       omega
   rintro σ' H3 ⟨b,s3,b1,b2,rfl⟩
   have ev3:=s3 _ _ ev1
   refine⟨fun σ' H'=>∃g:Int,Same H3 H'/\ -63<=g/\g<=60/\σ'=[some (.int c),some (.ref pq),some (.int t),some (.int n),some (.int b),some (.int g)],?_,?_⟩
   . obtain⟨g,hg,ix⟩:=at3 (v.l-n/64 % 4) (v.l+n/64 % 30) (v.m-n/64 % 4) n
     have e0:=Int.emod_nonneg (n/64) (show(4:Int)≠0 by decide)
     have e1:=Int.emod_lt_of_pos (n/64) (show(0:Int)<4 by decide)
     have f0:=Int.emod_nonneg (n/64) (show(30:Int)≠0 by decide)
     have f1:=Int.emod_lt_of_pos (n/64) (show(0:Int)<30 by decide)
     refine⟨_,rfl,pq,_,_,_,rfl,rfl,SqT.of ev3,C0 (j:=2) rfl,_,rfl,_,_,rfl,rfl,d64,_,_,rfl,rfl,p4,_,_,rfl,rfl,_,rfl,pq,_,_,_,rfl,rfl,SqT.of ev3,C0 (j:=2) rfl,_,rfl,_,_,rfl,rfl,d64,_,_,rfl,rfl,(by decide:(0:Int)<30),_,_,rfl,rfl,_,rfl,pq,_,_,_,rfl,rfl,SqT.of ev3,C0 (j:=3) rfl,_,rfl,_,_,rfl,rfl,d64,_,_,rfl,rfl,p4,_,_,rfl,rfl,z3,fun p np=>⟨_,rfl,_,_,rfl,rfl,(by decide:(0:Int)<3),p,_,_,_,rfl,rfl,SqL.of A8,ix,g,Same.upd np,?_,?_,rfl⟩⟩
     . rcases hg with rfl|rfl|rfl<;>omega
     . rcases hg with rfl|rfl|rfl<;>omega
   rintro σ' H4 ⟨g,s4,g0,g1,rfl⟩
   have ev4:=s4 _ _ ev3
   refine⟨fun σ' H'=>∃g:Int,Same H4 H'/\ -80<=g/\g<=80/\σ'=[some (.int c),some (.ref pq),some (.int t),some (.int n),some (.int b),some (.int g)],?_,?_⟩
   . obtain⟨g',hg,ix⟩:=ixs (xs:=[g,g,v.m+n/64 % 3,n/64 % 161-80]) (i:=n/512 % 4) (Int.emod_nonneg _ (by decide)) (by show n/512 % 4<4;exact Int.emod_lt_of_pos _ (by decide))
     have e0:=Int.emod_nonneg (n/64) (show(3:Int)≠0 by decide)
     have e1:=Int.emod_lt_of_pos (n/64) (show(0:Int)<3 by decide)
     have f0:=Int.emod_nonneg (n/64) (show(161:Int)≠0 by decide)
     have f1:=Int.emod_lt_of_pos (n/64) (show(0:Int)<161 by decide)
     refine⟨_,rfl,_,rfl,_,rfl,pq,_,_,_,rfl,rfl,SqT.of ev4,C0 (j:=3) rfl,_,rfl,_,_,rfl,rfl,d64,_,_,rfl,rfl,(by decide:(0:Int)<3),_,_,rfl,rfl,_,rfl,_,_,rfl,rfl,d64,_,_,rfl,rfl,(by decide:(0:Int)<161),_,_,rfl,rfl,z4,fun p np=>⟨_,rfl,_,_,rfl,rfl,dv (n:=512) (by decide) (by decide+kernel),_,_,rfl,rfl,p4,p,_,_,_,rfl,rfl,SqL.of A8,ix,g',Same.upd np,?_,?_,rfl⟩⟩
     all_goals
       simp only[List.mem_cons,List.not_mem_nil,or_false] at hg
       omega
   have s4':=s4
   clear g0 g1 ev4
   rintro σ' H5 ⟨g',s5,g0,g1,rfl⟩
   have lt:t.natAbs.log2<1920:=(szT t1 (Int.lt_of_lt_of_le t2 (D8 (by decide)))).log
   have lb:b.natAbs.log2<1920:=(szT b1 (Int.lt_of_lt_of_le (b9 b2) (D8 (by decide)))).log
   exact⟨_,rfl,_,rfl,_,rfl,_,rfl,_,rfl,lt,_,rfl,int_text_fits lt,_,_,rfl,rfl,_,rfl,_,rfl,lb,_,rfl,int_text_fits lb,_,_,rfl,rfl,z3,fun p np=>k t b g' p _ t1 t2 b1 b2 g0 g1 (((s1.trans s3).trans s4').trans (s5.trans (Same.upd np))) A8⟩
noncomputable def A5b:Sp:=fun vs H Q _=>∃q,∃(lv:Lv) (u p:Int),vs=[.ref q,.int u,.int p]/\H q=some (.tup lv.ex)/\lv.Xv/\0<=u/\u<A1 30/\ -200<=p/\p<=200/\Q (.int (lv.ag u p)) H
theorem scLAgainst:FnScope ["_law_exact","_law_whole","_law_power","_law_word","_law_top_here","_law_bottom","_law_scale","_law_shift","_law_one","_law_other"] ["_law_exact","_law_whole","_law_power"] (A2 V8):=scK
theorem G3g(D:Def K mg "_law_against" ["_law_exact","_law_whole","_law_power"] V8 f fd)(dA:Def K mg "_law_ten" ["_law_count"] B2f f1 fd1)(dB:FnOk P w K mg base (CX1 P w) 1 f1 fd1 ["_law_count"] C1u)(O:Own mg):FnOk P w K mg base (CX1 P w) 2 f fd ["_law_exact","_law_whole","_law_power"] A5b:=by
 refine D.F.okE scLAgainst (fun vs H Q E h=>?_) (fun X cdv A outer s H vs Q E hX hr hx h=>?_)
 . obtain⟨q,lv,u,p,rfl,_⟩:=h
   rfl
 . subst hX
   obtain⟨q,lv,u,p,rfl,ev,xv,u0,u1,p0,p1,k⟩:=h
   refine⟨_,(A4 (B7 (C1h (pv 0) (C1s rfl (J9 (J5 (i:=3) scLAgainst.nd rfl (Or.inl rfl)) (J9 (J5 (i:=4) scLAgainst.nd rfl (Or.inl rfl)) (J9 (J5 (i:=5) scLAgainst.nd rfl (Or.inl rfl)) (J9 (J5 (i:=6) scLAgainst.nd rfl (Or.inl rfl)) B4s)))))))
     (A4 (B7 (C5 (i:=7) scLAgainst.nd rfl (Or.inl rfl) (A7 G9 (pv 2) (pv 6))))
     (A4 (B7 (G6 (C4 G4 (pv 3) B9 (B5 _)) (A4 (B7 (C5 (i:=1) scLAgainst.nd rfl (Or.inl rfl) (A7 D6 (pv 1) (pv 1))))
     (A6 (B7 (C5 (i:=7) scLAgainst.nd rfl (Or.inl rfl) (A7 G9 (A7 D6 A3 (pv 2)) (pv 6)))))) C6))
     (A4 (B7 (C5 (i:=8) scLAgainst.nd rfl (Or.inl rfl) (A7 D6 (A7 D6 (pv 1) (pv 5)) (C8 dA dB hr hx (A0 (J2 (V1 rfl) (by rfl) O.max_ boot_max (A0 (pv 7) (A0 A3 A5))) A5)))))
     (A4 (B7 (C5 (i:=9) scLAgainst.nd rfl (Or.inl rfl) (A7 D6 (pv 4) (C8 dA dB hr hx (A0 (J2 (V1 rfl) (by rfl) O.max_ boot_max (A0 (A7 G9 A3 (pv 7)) (A0 A3 A5))) A5)))))
     (A6 (B3 (A7 G9 (J8 A1x (by rfl) O.int_ boot_int (A0 (D3 B2e (pv 8) (pv 9) (B5 _)) A5)) (J8 A1x (by rfl) O.int_ boot_int (A0 (D3 B9k (pv 8) (pv 9) (B5 _)) A5)))))))))),?_⟩
   have t200:A1 30<=A1 200:=D8 (by decide)
   cases lv with
   | rat t b n=>
     obtain⟨⟨t1,t2⟩,⟨b1,b2⟩,n0,n1⟩:=xv
     have t28:A1 28<=A1 200:=D8 (by decide)
     have t10:A1 10<=A1 200:=D8 (by decide)
     refine⟨fun σ' H'=>H'=H/\σ'=[some (.ref q),some (.int u),some (.int p),some (.str "ratio"),some (.int t),some (.int b),some (.int n),none,none,none],⟨_,rfl,q,_,rfl,SqT.of ev,rfl,_,_,rfl,_,_,rfl,_,_,rfl,_,_,rfl,rfl,rfl,rfl⟩,?_⟩
     rintro σ' H1 ⟨rfl,rfl⟩
     refine⟨fun σ' H'=>H'=H1/\σ'=[some (.ref q),some (.int u),some (.int p),some (.str "ratio"),some (.int t),some (.int b),some (.int n),some (.int (p-n)),none,none],⟨_,rfl,_,rfl,_,_,rfl,rfl,rfl,rfl⟩,?_⟩
     rintro σ' H2 ⟨rfl,rfl⟩
     refine⟨fun σ' H'=>H'=H2/\σ'=[some (.ref q),some (.int u),some (.int p),some (.str "ratio"),some (.int t),some (.int b),some (.int n),some (.int (p-n)),none,none],⟨_,rfl,rfl,_,rfl,J7 (by decide) ⟨rfl,rfl⟩⟩,?_⟩
     rintro σ' H3 ⟨rfl,rfl⟩
     have ub:u*b<A1 200:=by
       have a:u*b<=u*A1 10:=Int.mul_le_mul_of_nonneg_left (by omega) u0
       have c:u*A1 10<A1 30*A1 10:=Int.mul_lt_mul_of_pos_right u1 (B8 _)
       have e:A1 30*A1 10=A1 40:=by decide+kernel
       have:=D8 (show(40:Int)<=200 by decide)
       omega
     refine⟨fun σ' H'=>H'=H3/\σ'=[some (.ref q),some (.int u),some (.int p),some (.str "ratio"),some (.int t),some (.int b),some (.int n),some (.int (p-n)),some (.int (u*b*A1 (p-n))),none],?_,?_⟩
     . exact⟨_,rfl,_,rfl,_,_,rfl,rfl,Y8w u0 (by omega) (by omega) (by omega),_,rfl,_,_,rfl,(p-n).toNat,Y6g _,by omega,_,_,rfl,rfl,C1d (Int.mul_nonneg u0 (by omega)) ub (by omega),rfl,rfl⟩
     rintro σ' H4 ⟨rfl,rfl⟩
     refine⟨fun σ' H'=>H'=H4/\σ'=[some (.ref q),some (.int u),some (.int p),some (.str "ratio"),some (.int t),some (.int b),some (.int n),some (.int (p-n)),some (.int (u*b*A1 (p-n))),some (.int (t*A1 (0-(p-n))))],?_,?_⟩
     . exact⟨_,rfl,_,rfl,_,_,rfl,rfl,_,_,rfl,(0-(p-n)).toNat,Y6g _,by omega,_,_,rfl,rfl,C1d (by omega) (by omega) (by omega),rfl,rfl⟩
     rintro σ' H5 ⟨rfl,rfl⟩
     have e:Lv.ag (.rat t b n) u p=agI (u*b*A1 (p-n)) (t*A1 (0-(p-n))):=by
       rw[show 0-(p-n)=n-p by omega]
       rfl
     rw[e] at k
     exact⟨_,rfl,_,rfl,_,_,rfl,rfl,.inr ⟨_,rfl,_,rfl,_,rfl,_,_,rfl,rfl,.inr ⟨_,rfl,_,_,rfl,rfl,k⟩⟩⟩
   | roo t n=>
     obtain⟨⟨t1,t2⟩,n0,n1⟩:=xv
     have t28:A1 28<=A1 200:=D8 (by decide)
     refine⟨fun σ' H'=>H'=H/\σ'=[some (.ref q),some (.int u),some (.int p),some (.str "root"),some (.int t),some (.int 1),some (.int n),none,none,none],⟨_,rfl,q,_,rfl,SqT.of ev,rfl,_,_,rfl,_,_,rfl,_,_,rfl,_,_,rfl,rfl,rfl,rfl⟩,?_⟩
     rintro σ' H1 ⟨rfl,rfl⟩
     refine⟨fun σ' H'=>H'=H1/\σ'=[some (.ref q),some (.int u),some (.int p),some (.str "root"),some (.int t),some (.int 1),some (.int n),some (.int (p-n)),none,none],⟨_,rfl,_,rfl,_,_,rfl,rfl,rfl,rfl⟩,?_⟩
     rintro σ' H2 ⟨rfl,rfl⟩
     refine⟨fun σ' H'=>H'=H2/\σ'=[some (.ref q),some (.int (u*u)),some (.int p),some (.str "root"),some (.int t),some (.int 1),some (.int n),some (.int (2*p-n)),none,none],⟨_,rfl,rfl,_,rfl,U7 rfl ?_⟩,?_⟩
     . refine⟨fun σ' H'=>H'=H2/\σ'=[some (.ref q),some (.int (u*u)),some (.int p),some (.str "root"),some (.int t),some (.int 1),some (.int n),some (.int (p-n)),none,none],⟨_,rfl,_,rfl,_,_,rfl,rfl,Y8w u0 (by omega) u0 (by omega),rfl,rfl⟩,?_⟩
       rintro σ' H3 ⟨rfl,rfl⟩
       refine⟨_,?_,fun _ _ h=>h⟩
       exact⟨_,rfl,_,_,rfl,rfl,CMul.ok (.inl ⟨by decide,by decide⟩),_,rfl,_,_,rfl,rfl,rfl,rfl⟩
     rintro σ' H3 ⟨rfl,rfl⟩
     have ub:u*u<A1 200:=by
       have a:u*u<=u*A1 30:=Int.mul_le_mul_of_nonneg_left (by omega) u0
       have c:u*A1 30<A1 30*A1 30:=Int.mul_lt_mul_of_pos_right u1 (B8 _)
       have e:A1 30*A1 30=A1 60:=by decide+kernel
       have:=D8 (show(60:Int)<=200 by decide)
       omega
     have uu:=Int.mul_nonneg u0 u0
     refine⟨fun σ' H'=>H'=H3/\σ'=[some (.ref q),some (.int (u*u)),some (.int p),some (.str "root"),some (.int t),some (.int 1),some (.int n),some (.int (2*p-n)),some (.int (u*u*1*A1 (2*p-n))),none],?_,?_⟩
     . exact⟨_,rfl,_,rfl,_,_,rfl,rfl,CMul.ok (.inr ⟨by decide,by decide⟩),_,rfl,_,_,rfl,(2*p-n).toNat,Y6g _,by omega,_,_,rfl,rfl,C1d (by omega) (by omega) (by omega),rfl,rfl⟩
     rintro σ' H4 ⟨rfl,rfl⟩
     refine⟨fun σ' H'=>H'=H4/\σ'=[some (.ref q),some (.int (u*u)),some (.int p),some (.str "root"),some (.int t),some (.int 1),some (.int n),some (.int (2*p-n)),some (.int (u*u*1*A1 (2*p-n))),some (.int (t*A1 (0-(2*p-n))))],?_,?_⟩
     . exact⟨_,rfl,_,rfl,_,_,rfl,rfl,_,_,rfl,(0-(2*p-n)).toNat,Y6g _,by omega,_,_,rfl,rfl,C1d (by omega) (by omega) (by omega),rfl,rfl⟩
     rintro σ' H5 ⟨rfl,rfl⟩
     have e:Lv.ag (.roo t n) u p=agI (u*u*1*A1 (2*p-n)) (t*A1 (0-(2*p-n))):=by
       rw[show 0-(2*p-n)=n-2*p by omega]
       rfl
     rw[e] at k
     exact⟨_,rfl,_,rfl,_,_,rfl,rfl,.inr ⟨_,rfl,_,rfl,_,rfl,_,_,rfl,rfl,.inr ⟨_,rfl,_,_,rfl,rfl,k⟩⟩⟩
end
noncomputable abbrev A2x:Stmt:=(top 66)
noncomputable abbrev B2w:Stmt:=(top 67)
theorem Z5c{lo c:Int}{n:Nat}{g:TG}{tb:TS}{D:Ends}{σ:L2.St}{H:Hp}(Pv:Nat ->L2.St ->Hp ->Prop)(h0:Pv 0 σ H)
   (hs:∀(i:Nat) σ H,i<n ->Pv i σ H ->g (.int (lo+i*c)) σ H fun σ2 H2=>tb {D with nx:=Pv (i+1),ct:=Pv (i+1),bk:=D.nx} σ2 H2) (hd:∀σ H,Pv n σ H ->D.nx σ H):
   ∃ W:Nat ->Nat ->L2.St ->Hp ->Prop,(∃m,W 0 m σ H)/\∀i m σ H,W i m σ H ->
     ((Itq lo c n).stop i H/\D.nx σ H)\/((Itq lo c n).go i H/\∃N:L2.St ->Hp ->Prop,(∀σ' H',N σ' H' ->∃m',m'<m/\W (i+1) m' σ' H')/\∀x H',(Itq lo c n).yld i H x H' ->g x σ H' fun σ2 H2=>tb {D with nx:=N,ct:=N,bk:=D.nx} σ2 H2):=by
 refine⟨fun i m σ H=>m=n-i/\i<=n/\Pv i σ H,⟨n,by simp,Nat.zero_le _,h0⟩,?_⟩
 rintro i m σ H ⟨rfl,hi,p⟩
 by_cases hlt:i<n
 . refine .inr ⟨hlt,Pv (i+1),fun σ' H' p'=>⟨n-(i+1),by omega,rfl,hlt,p'⟩,fun x H' y=>?_⟩
   obtain⟨rfl,rfl⟩:=y
   exact hs i σ _ hlt p
 . have e:i=n:=by omega
   subst e
   exact .inl ⟨Nat.le_refl _,hd σ H p⟩
theorem B4q{z:Int}(h0: -1000<=z)(h1:z<=1000):Builtin.Range.rangeFitsLong z=true:=by
 unfold Builtin.Range.rangeFitsLong
 simp
 omega
theorem Z1k{F p:Int}(h:p<=F)(h0: -300<=p)(h1:F<=300):Builtin.Range.rangeSize F (p-1) (-1)=F-p+1/\Builtin.Range.small F (p-1) (-1)=true/\Builtin.divisionGoesByPylong (p-1-F) (-1)=false:=by
 have e:Builtin.Range.rangeSize F (p-1) (-1)=F-p+1:=by
   unfold Builtin.Range.rangeSize
   rw[if_neg (by decide),if_pos (by omega),show -(-1:Int)=1 from rfl,Int.ediv_one]
   omega
 refine⟨e,?_,PyProof.noPylong_small (by decide)⟩
 unfold Builtin.Range.small
 rw[e,B4q (z:=F) (by omega) (by omega),B4q (z:=p-1) (by omega) (by omega),B4q (z:= -1) (by decide) (by decide),B4q (z:=F-p+1) (by omega) (by omega),if_neg (by decide),B4q (z:=p-1+(-1+1)) (by omega) (by omega)]
 simp
theorem Lv.Xv.ld{lv:Lv}(h:lv.Xv):lv.Ld lv.L:=by
 cases lv with
 | rat t b n=>
   obtain⟨⟨t1,t2⟩,⟨b1,b2⟩,_⟩:=h
   exact Z0a ⟨t1,b1⟩ (D1w (szT t1 t2).sz (szT b1 (Int.lt_of_lt_of_le b2 (D8 (by decide)))).sz n)
 | roo t n=>
   obtain⟨⟨t1,t2⟩,_⟩:=h
   exact Z0r t1 (C0k ⟨t1,Int.lt_trans t2 (by decide+kernel)⟩ n)
noncomputable def Lv.g1:Lv ->Int
 | .rat t b n=>G8 t-G8 b+n
 | .roo t n=>G8 t-G8 1+n
noncomputable def Lv.g0:Lv ->Int
 | .rat t b n=>G8 t-G8 b+n
 | .roo t n=>(G8 t-G8 1+n)/2
theorem Lv.Xv.g{lv:Lv}(h:lv.Xv):lv.L<=lv.g0/\lv.g0<=lv.L+1/\ -150<=lv.L/\lv.L<=150:=by
 cases lv with
 | rat t b n=>
   obtain⟨⟨t1,t2⟩,⟨b1,b2⟩,n0,n1⟩:=h
   have ft:=C1y t1 t2 (by decide)
   have fb:=C1y b1 b2 (by decide)
   show n+Y2 t b<=G8 t-G8 b+n/\G8 t-G8 b+n<=n+Y2 t b+1/\ -150<=n+Y2 t b/\n+Y2 t b<=150
   unfold Y2
   split<;>omega
 | roo t n=>
   obtain⟨⟨t1,t2⟩,n0,n1⟩:=h
   have ft:=C1y t1 t2 (by decide)
   have f1:G8 1=1:=by decide+kernel
   show A2w t n<=(G8 t-G8 1+n)/2/\(G8 t-G8 1+n)/2<=A2w t n+1/\ -150<=A2w t n/\A2w t n<=150
   unfold A2w
   rw[f1]
   omega
theorem Z0c{lv:Lv}(h:lv.Ps){u:Int}(hu:0<=u)(q:Int):lv.ag u q<=0↔u<=lv.wh q:=by
 unfold Lv.ag
 rw[U8h]
 exact A8a h hu q
section
variable{P:Program}{w:World}{K:Frag}{mg:Str ->Option Value}{base:Heap}
noncomputable def C0p:Sp:=fun vs H Q _=>∃q,∃lv:Lv,vs=[.ref q]/\H q=some (.tup lv.ex)/\lv.Xv/\Q (.int lv.L) H
theorem scLLeads:FnScope ["_law_exact","_law_found"] ["_law_exact"] (A2 A2x):=scK
theorem U0f(D:Def K mg "_law_leads" ["_law_exact"] A2x f fd)(dA:Def K mg "_law_against" ["_law_exact","_law_whole","_law_power"] V8 f1 fd1)(dB:FnOk P w K mg base (CX1 P w) 2 f1 fd1 ["_law_exact","_law_whole","_law_power"] A5b)(O:Own mg):FnOk P w K mg base (CX1 P w) 3 f fd ["_law_exact"] C0p:=by
 refine D.F.okE scLLeads (fun vs H Q E h=>?_) (fun X cdv A outer s H vs Q E hX hr hx h=>?_)
 . obtain⟨q,lv,rfl,_⟩:=h
   rfl
 . subst hX
   obtain⟨q,lv,rfl,ev,xv,k⟩:=h
   refine⟨_,(A4 (B7 (C5 (i:=1) scLLeads.nd rfl (Or.inl rfl) (A7 D9 (A7 G9 (J2 U9 (by rfl) O.len_ PySem.boot_len (A0 (J8 U3 (by rfl) O.str_ boot_str (A0 (G7 G2 (pv 0) A3 (fun _ _=>rfl)) A5)) A5)) (J2 U9 (by rfl) O.len_ PySem.boot_len (A0 (J8 U3 (by rfl) O.str_ boot_str (A0 (G7 G2 (pv 0) A3 (fun _ _=>rfl)) A5)) A5))) (G7 G2 (pv 0) A3 (fun _ _=>rfl)))))
     (A4 (B7 (G6 (C4 G4 (G7 G2 (pv 0) A3 (fun _ _=>rfl)) B9 (B5 _)) (A6 (B7 (C5 (i:=1) scLLeads.nd rfl (Or.inl rfl) (A7 D5 (pv 1) A3)))) C6))
     (A4 (B7 (A2d PassesOwn.leaving (C4 B2e (C8 dA dB hr hx (A0 (pv 0) (A0 A3 (A0 (pv 1) A5)))) A3 (B5 _)) (A6 (B7 (D2m (i:=1) scLLeads.nd rfl (Or.inl rfl) A3 Z1e)))))
     (A4 (B7 (A2d PassesOwn.leaving (C4 J6v (C8 dA dB hr hx (A0 (pv 0) (A0 A3 (A0 (pv 1) A5)))) A3 (B5 _)) (A6 (B7 (D2m (i:=1) scLLeads.nd rfl (Or.inl rfl) A3 G7a)))))
     (A6 (B3 (pv 1))))))),?_⟩
   obtain⟨a1,a2,a3,a4⟩:=xv.g
   have ps:=xv.ps
   have ld:=xv.ld
   have t30:(10:Int)<A1 30:=by decide+kernel
   refine⟨fun σ' H'=>H'=H/\σ'=[some (.ref q),some (.int lv.g1)],?_,?_⟩
   . cases lv with
     | rat t b n=>
       obtain⟨⟨t1,t2⟩,⟨b1,b2⟩,n0,n1⟩:=xv
       have lt:=(szT t1 t2).log
       have lb:=(szT b1 (Int.lt_of_lt_of_le b2 (D8 (by decide)))).log
       exact⟨_,rfl,q,_,_,_,rfl,rfl,SqT.of ev,C0 (j:=1) rfl,_,rfl,lt,_,rfl,int_text_fits lt,_,rfl,q,_,_,_,rfl,rfl,SqT.of ev,C0 (j:=2) rfl,_,rfl,lb,_,rfl,int_text_fits lb,_,_,rfl,rfl,_,rfl,q,_,_,_,rfl,rfl,SqT.of ev,C0 (j:=3) rfl,_,_,rfl,rfl,rfl,rfl⟩
     | roo t n=>
       obtain⟨⟨t1,t2⟩,n0,n1⟩:=xv
       have lt:=(szT t1 t2).log
       have lb:(1:Int).natAbs.log2<1920:=by decide+kernel
       exact⟨_,rfl,q,_,_,_,rfl,rfl,SqT.of ev,C0 (j:=1) rfl,_,rfl,lt,_,rfl,int_text_fits lt,_,rfl,q,_,_,_,rfl,rfl,SqT.of ev,C0 (j:=2) rfl,_,rfl,lb,_,rfl,int_text_fits lb,_,_,rfl,rfl,_,rfl,q,_,_,_,rfl,rfl,SqT.of ev,C0 (j:=3) rfl,_,_,rfl,rfl,rfl,rfl⟩
   rintro σ' H1 ⟨rfl,rfl⟩
   refine⟨fun σ' H'=>H'=H1/\σ'=[some (.ref q),some (.int lv.g0)],?_,?_⟩
   . cases lv with
     |rat t b n=>exact⟨_,rfl,q,_,_,_,rfl,rfl,SqT.of ev,C0 (j:=0) rfl,rfl,_,rfl,J7 (by decide) ⟨rfl,rfl⟩⟩
     | roo t n=>
       refine⟨_,rfl,q,_,_,_,rfl,rfl,SqT.of ev,C0 (j:=0) rfl,rfl,_,rfl,U7 rfl ?_⟩
       refine⟨_,?_,fun _ _ h=>h⟩
       exact⟨_,rfl,_,_,rfl,rfl,dv (n:=2) (by decide) (by decide+kernel),rfl,rfl⟩
   rintro σ' H2 ⟨rfl,rfl⟩
   generalize lv.g0=g0 at a1 a2
   refine⟨fun σ' H'=>H'=H2/\σ'=[some (.ref q),some (.int lv.L)],?_,?_⟩
   . refine A2q (fun σ H5=>H5=H2/\∃g:Int,lv.L<=g/\g<=lv.L+1/\σ=[some (.ref q),some (.int g)]) (fun σ _=>match σ with| [_,some (.int g)]=>(g-lv.L).toNat|_=>0) ⟨rfl,g0,a1,a2,rfl⟩ ?_ ?_
     . rintro σ H5 ⟨rfl,g,b1,b2,rfl⟩
       refine⟨_,rfl,_,rfl,q,lv,1,g,rfl,ev,xv,by decide,by omega,by omega,by omega,_,_,rfl,rfl,_,rfl,?_⟩
       have key:=Z0c ps (u:=1) (by decide) g
       have wl:=(C0a ps ld g).1
       by_cases c:0<lv.ag 1 g
       . rw[decide_eq_true c]
         refine V2 ?_
         have:lv.L<g:=wl.mp (by omega)
         refine⟨_,?_,fun _ _ h=>h⟩
         refine⟨_,rfl,_,_,rfl,rfl,⟨rfl,g-1,by omega,by omega,rfl⟩,?_⟩
         show(g-1-lv.L).toNat<(g-lv.L).toNat
         omega
       . rw[decide_eq_false c]
         have:¬lv.L<g:=fun z=>by have:=wl.mpr z;omega
         obtain rfl:g=lv.L:=by omega
         exact J4 ⟨rfl,rfl⟩
     . rintro σ H5 Q1 Q2 hQ ⟨v1,e1,v2,e2,q',lv',u',p',e3,c1,c2,c3,c4,c5,c6,i,j,e4,e5,bb,eb,z⟩
       exact⟨v1,e1,v2,e2,q',lv',u',p',e3,c1,c2,c3,c4,c5,c6,i,j,e4,e5,bb,eb,hQ _ _ z⟩
   rintro σ' H3 ⟨rfl,rfl⟩
   refine⟨fun σ' H'=>H'=H3/\σ'=[some (.ref q),some (.int lv.L)],?_,?_⟩
   . refine A2q (fun σ H5=>H5=H3/\σ=[some (.ref q),some (.int lv.L)]) (fun σ _=>0) ⟨rfl,rfl⟩ ?_ ?_
     . rintro σ H5 ⟨rfl,rfl⟩
       refine⟨_,rfl,_,rfl,q,lv,10,lv.L,rfl,ev,xv,by decide,t30,by omega,by omega,_,_,rfl,rfl,_,rfl,?_⟩
       have key:=Z0c ps (u:=10) (by decide) lv.L
       have:¬lv.ag 10 lv.L<=0:=fun z=>by have:=key.mp z;have:=ld.b;omega
       rw[decide_eq_false this]
       exact J4 ⟨rfl,rfl⟩
     . rintro σ H5 Q1 Q2 hQ ⟨v1,e1,v2,e2,q',lv',u',p',e3,c1,c2,c3,c4,c5,c6,i,j,e4,e5,bb,eb,z⟩
       exact⟨v1,e1,v2,e2,q',lv',u',p',e3,c1,c2,c3,c4,c5,c6,i,j,e4,e5,bb,eb,hQ _ _ z⟩
   rintro σ' H4 ⟨rfl,rfl⟩
   exact⟨_,rfl,k⟩
noncomputable def J7s:Sp:=fun vs H Q _=>∃q,∃(lv:Lv) (p:Int),vs=[.ref q,.int p]/\H q=some (.tup lv.ex)/\lv.Xv/\ -150<=p/\p<=150/\lv.wh p<A1 24/\Q (.int (lv.wh p)) H
theorem scLNear:FnScope ["_law_exact","_law_power","_law_whole","_law_first","_law_place"] ["_law_exact","_law_power"] (A2 B2w):=scK
theorem U9w(D:Def K mg "_law_near" ["_law_exact","_law_power"] B2w f fd)(dA:Def K mg "_law_against" ["_law_exact","_law_whole","_law_power"] V8 f1 fd1)(dB:FnOk P w K mg base (CX1 P w) 2 f1 fd1 ["_law_exact","_law_whole","_law_power"] A5b)
   (dC:Def K mg "_law_leads" ["_law_exact"] A2x f2 fd2) (dD:FnOk P w K mg base (CX1 P w) 3 f2 fd2 ["_law_exact"] C0p) (O:Own mg):FnOk P w K mg base (CX1 P w) 4 f fd ["_law_exact","_law_power"] J7s:=by
 refine D.F.okE scLNear (fun vs H Q E h=>?_) (fun X cdv A outer s H vs Q E hX hr hx h=>?_)
 . obtain⟨q,lv,p,rfl,_⟩:=h
   rfl
 . subst hX
   obtain⟨q,lv,p,rfl,ev,xv,p0,p1,wp,k⟩:=h
   refine⟨_,(A4 (B7 (C5 (i:=2) scLNear.nd rfl (Or.inl rfl) A3))
     (A4 (B7 (C5 (i:=3) scLNear.nd rfl (Or.inl rfl) (J2 (V1 rfl) (by rfl) O.max_ boot_max (A0 (C8 dC dD hr hx (A0 (pv 0) A5)) (A0 (pv 1) A5)))))
     (A4 (B7 (D2s PassesOwn.leaving rfl (J9g rfl O.range_ (A0 (pv 3) (A0 (A7 G9 (pv 1) A3) (A0 (D0u B5s A3) A5)))) (J5 (i:=4) scLNear.nd rfl (Or.inl rfl)) (A4 (B7 (C5 (i:=2) scLNear.nd rfl (Or.inl rfl) (A7 D6 A3 (pv 2))))
     (A6 (B7 (A2d PassesOwn.leaving (C4 J6v (C8 dA dB hr hx (A0 (pv 0) (A0 (A7 D9 (pv 2) A3) (A0 (pv 4) A5)))) A3 (B5 _)) (A6 (B7 (D2m (i:=2) scLNear.nd rfl (Or.inl rfl) A3 G7a)))))))))
     (A6 (B3 (pv 2)))))),?_⟩
   obtain⟨a1,a2,a3,a4⟩:=xv.g
   have ps:=xv.ps
   have ld:=xv.ld
   have t30:A1 24<A1 30:=by decide+kernel
   refine⟨fun σ' H'=>H'=H/\σ'=[some (.ref q),some (.int p),some (.int 0),none,none],⟨rfl,rfl⟩,?_⟩
   rintro σ' H1 ⟨rfl,rfl⟩
   refine⟨fun σ' H'=>∃F:Int,H'=H1/\lv.L<=F/\p<=F/\F<=150/\σ'=[some (.ref q),some (.int p),some (.int 0),some (.int F),none],?_,?_⟩
   . refine⟨_,rfl,q,lv,rfl,ev,xv,_,rfl,_,_,rfl,_,rfl,?_,?_,?_,rfl⟩
     all_goals split<;>omega
   rintro σ' H2 ⟨F,rfl,f1',f2',f3',rfl⟩
   obtain⟨r1,r2,r3⟩:=Z1k f2' (by omega) (by omega)
   have w0:lv.wh (F+1)=0:=by
     have:=(C0a ps ld (F+1)).1.mpr (by omega)
     have:=lv.wh_0 ps (F+1)
     omega
   refine⟨fun σ' H'=>∃v:Option V,H'=H2/\σ'=[some (.ref q),some (.int p),some (.int (lv.wh p)),some (.int F),v],?_,?_⟩
   . refine⟨_,rfl,_,rfl,_,_,rfl,rfl,_,rfl,F,p-1, -1,(F-p+1).toNat,rfl,by decide,r3,r2,by rw[r1];omega,?_⟩
     refine Z5c (fun i σ' H'=>∃v:Option V,H'=H2/\σ'=[some (.ref q),some (.int p),some (.int (lv.wh (F+1-i))),some (.int F),v]) ⟨none,rfl,by rw[show F+1-((0:Nat):Int)=F+1 by omega,w0]⟩ ?_ ?_
     . rintro i σ' H3 hi ⟨v,rfl,rfl⟩
       have ei:F+(i:Int)* -1=F-i:=by omega
       rw[ei]
       have hp:p<=F-i:=by omega
       have wd:=C1m ps (F+1-i)
       rw[show F+1-(i:Int)-1=F-i by omega] at wd
       have wm:=G2z ps hp
       have wz:=lv.wh_0 ps (F-i)
       refine⟨fun σ' H'=>H'=H3/\σ'=[some (.ref q),some (.int p),some (.int (10*lv.wh (F+1-i))),some (.int F),some (.int (F-i))],⟨_,rfl,_,_,rfl,rfl,CMul.ok (.inl ⟨by decide,by decide⟩),rfl,rfl⟩,?_⟩
       rintro σ' H4 ⟨rfl,rfl⟩
       refine⟨_,?_,fun _ _ h=>h⟩
       refine A2q (fun σ H5=>H5=H4/\∃g:Int,0<=g/\g<=lv.wh (F-i)/\σ=[some (.ref q),some (.int p),some (.int g),some (.int F),some (.int (F-i))]) (fun σ _=>match σ with| [_,_,some (.int g),_,_]=>(lv.wh (F-i)-g).toNat|_=>0) ⟨rfl,10*lv.wh (F+1-i),by omega,by omega,rfl⟩ ?_ ?_
       . rintro σ H5 ⟨rfl,g,g0,g1,rfl⟩
         refine⟨_,rfl,_,rfl,_,_,rfl,rfl,_,rfl,q,lv,g+1,F-i,rfl,ev,xv,by omega,by omega,by omega,by omega,_,_,rfl,rfl,_,rfl,?_⟩
         have key:=Z0c ps (u:=g+1) (by omega) (F-i)
         by_cases c:lv.ag (g+1) (F-i)<=0
         . rw[decide_eq_true c]
           have:=key.mp c
           refine V2 ?_
           refine⟨_,?_,fun _ _ h=>h⟩
           refine⟨_,rfl,_,_,rfl,rfl,⟨rfl,g+1,by omega,by omega,rfl⟩,?_⟩
           show(lv.wh (F-i)- (g+1)).toNat<(lv.wh (F-i)-g).toNat
           omega
         . rw[decide_eq_false c]
           have:¬g+1<=lv.wh (F-i):=fun z=>c (key.mpr z)
           obtain rfl:g=lv.wh (F-i):=by omega
           exact J4 ⟨_,rfl,by rw[show F+1-((i+1:Nat):Int)=F-i by omega]⟩
       . rintro σ H5 Q1 Q2 hQ ⟨v1,e1,v2,e2,i1,j1,e6,e7,v3,e8,q',lv',u',p',e3,c1,c2,c3,c4,c5,c6,i2,j2,e4,e5,bb,eb,z⟩
         exact⟨v1,e1,v2,e2,i1,j1,e6,e7,v3,e8,q',lv',u',p',e3,c1,c2,c3,c4,c5,c6,i2,j2,e4,e5,bb,eb,hQ _ _ z⟩
     . rintro σ' H3 ⟨v,rfl,rfl⟩
       exact⟨v,rfl,by rw[show F+1-(((F-p+1).toNat:Nat):Int)=p by omega]⟩
   rintro σ' H3 ⟨v,rfl,rfl⟩
   exact⟨_,rfl,k⟩
end
noncomputable abbrev A2r:Stmt:=(top 65)
noncomputable abbrev A1z:Stmt:=(top 69)
noncomputable abbrev A4z:Stmt:=(top 70)
noncomputable abbrev A5f:Stmt:=(top 71)
theorem Y9m(zs:List Str)(f:Str ->Bool):zs.filter f=((List.range zs.length).filter fun i=>f (zs.getD i "")).map fun i=>zs.getD i "":=by
 have e:zs=(List.range zs.length).map fun i=>zs.getD i "":=by
   apply List.ext_getElem
   . simp
   . intro i h1 h2
     simp[h1]
 conv=>lhs;rw[e]
 rw[List.filter_map]
 rfl
theorem Y4a{zs:List Str}{f:Str ->Bool}{ys:List V}(hl:ys.length=((List.range zs.length).filter fun i=>f (zs.getD i "")).length)(h:∀(j i:Nat) (y:V),((List.range zs.length).filter fun i=>f (zs.getD i ""))[j]?=some i ->ys[j]?=some y ->y= .str (zs.getD i "")):
   ys=(zs.filter f).map V.str:=by
 rw[Y9m]
 apply List.ext_getElem
 . simp[hl]
 . intro j h1 h2
   have hj:j<((List.range zs.length).filter fun i=>f (zs.getD i "")).length:=by rw[<-hl];exact h1
   have z:=h j _ ys[j] (List.getElem?_eq_getElem hj) (List.getElem?_eq_getElem h1)
   simp only[List.getElem_map]
   exact z
theorem G2w{K:Frag}{l:Addr}{zs:List Str}{g:TG}{tc:TT}{te:TE}{σ0:L2.St}{H1:Hp}{QD:Addr ->Hp ->Prop}(f:Str ->Bool)(el:H1 l=some (.lst (zs.map V.str)))(hn:zs.length<=1000)
   (step:∀(z:Str) (H3:Hp) (Qy:VK) (Qn:Hp ->Prop),(f z=true ->Qy (.str z) H3) ->(f z=false ->Qn H3) ->g (.str z) σ0 H3 fun σ4 H4=>tc σ4 H4 fun b H5=>if b=true then te σ4 H5 Qy else Qn H5)
   (k:∀D H',Same H1 H' ->H1 D=none ->H' D=some (.lst ((zs.filter f).map V.str)) ->QD D H'):∀D,H1 D=none ->
   ∃ (m:Nat) (W:Nat ->List V ->Hp ->Prop),W 0 [] (upd H1 D (.lst []))/\∀i ys H2,W i ys H2 ->i<=m/\H2 D=some (.lst ys)/\(((Itl K l).stop i H2/\QD D H2)\/(i<m/\(Itl K l).go i H2/\∀x H3,(Itl K l).yld i H2 x H3 ->
     g x σ0 H3 fun σ4 H4=>tc σ4 H4 fun b H5=>if b=true then te σ4 H5 fun y H6=>H6 D=some (.lst ys)/\ys.length<sizeLine/\W (i+1) (ys++ [y]) (upd H6 D (.lst (ys++ [y]))) else W (i+1) ys H5)):=by
 have sq:∀{H2},Same H1 H2 ->SqL K H2 l (zs.map V.str):=fun s=>SqL.of (s _ _ el)
 refine U8p (J:=Itl K l) (n:=zs.length) (fun i=>f (zs.getD i "")) (fun i y _=>y= .str (zs.getD i "")) hn (fun _ _ _ _ _ _ h _ _=>h) (fun i H2 Qy Qn hi sm hy hnn=>?_) (fun H2 s2=>⟨_,sq s2,by rw[List.length_map];exact Nat.le_refl _⟩) (fun D H' ys s' nD eD hl hr=>k D H' s' nD ?_)
 . have at_:(zs.map V.str)[i]?=some (.str (zs.getD i "")):=by
     rw[List.getElem?_map,List.getElem?_eq_getElem hi]
     simp[hi]
   refine⟨⟨_,_,sq sm,at_⟩,fun x H3 y=>?_⟩
   obtain⟨rfl,yl⟩:=y
   have ex:=yl _ (sq sm)
   rw[at_] at ex
   obtain rfl:=(Option.some.inj ex).symm
   exact step _ _ Qy Qn (fun e=>hy e _ _ (Same.refl _) rfl) (fun e=>hnn e _ (Same.refl _))
 . rw[eD,Y4a hl hr]
noncomputable def Lv.At (CR CQ:Addr) (H:Hp) (x:Addr):Lv ->Prop
 | .rat t b n=>RatAt CR H x t b n
 | .roo t n=>RooAt CQ H x t n
theorem Z9y{CN CC CT CR CQ:Addr}{H:Hp}{c a b x:Addr}{v:Cv}{s i:Int}{lv:Lv}{Q:VK}{E:XK}(hc:CtxV CC H c v a b [] [])(ok:v.Ok)(xv:lv.Xv)(ra:lv.At CR CQ H x)(s0:0<=s)(s1:s<=1)
   (k:∀m a' H',Exc c H H' ->CtxV CC H' c v a' b (A1d (setL v s lv i).2) [] ->NumIs CN H' m (setL v s lv i).1 ->Q (.ref m) H'):B3d CN CC CT CR CQ [.ref c,.int s,.ref x,.int i] H Q E:=by
 cases lv with
 | rat t bo n=>
   obtain⟨⟨t1,t2⟩,⟨b1,b2⟩,n0,n1⟩:=xv
   have ht:=szT t1 t2
   have hb:=szT b1 (Int.lt_of_lt_of_le b2 (D8 (by decide)))
   obtain⟨hi,w0,w1⟩:=U9u (v:=v) ok ht hb (n:=n) (by omega) (by omega)
   exact .inl ⟨c,v,a,b,[],[],x,Y9w CR t bo n (n+Y2 t bo),s,i,rfl,hc,ok,by decide,Z5z ht.sz hb.sz (D1w ht.sz hb.sz n),ra,hi,w0,w1,s0,s1,fun _ m a' H' x' c' n'=>k m a' H' x' c' n',fun z hz=>by cases hz⟩
 | roo t n=>
   obtain⟨⟨t1,t2⟩,n0,n1⟩:=xv
   have hq:SzQ t:=⟨t1,Int.lt_trans t2 (by decide+kernel)⟩
   obtain⟨q0,q1,wr⟩:=J7v (v:=v) ok hq n0 n1
   exact .inr ⟨c,v,a,b,[],[],x,rooE CQ t n (A2w t n),s,i,rfl,hc,ok,by decide,rooV hq (by omega) (by omega) (C0k hq n),ra,⟨q0,q1⟩,(B4n (t:=t) (s:=n-2*v.fin (A2w t n)) t1).1,wr,s0,s1,fun _ m a' H' x' c' n'=>k m a' H' x' c' n',fun z hz=>by cases hz⟩
theorem Lv.Xv.set{v:Cv}{s:Int}{lv:Lv}(xv:lv.Xv)(ok:v.Ok)(s0:0<=s)(s1:s<=1):SetOk v s lv:=by
 refine⟨ok,s0,s1,xv.ps,xv.ld,?_⟩
 cases lv with
 | rat t bo n=>
   obtain⟨⟨t1,t2⟩,⟨b1,b2⟩,n0,n1⟩:=xv
   exact(U9u (v:=v) ok (szT t1 t2) (szT b1 (Int.lt_of_lt_of_le b2 (D8 (by decide)))) (n:=n) (by omega) (by omega)).2.2
 | roo t n=>
   obtain⟨⟨t1,t2⟩,n0,n1⟩:=xv
   exact(J7v (v:=v) ok ⟨t1,Int.lt_trans t2 (by decide+kernel)⟩ n0 n1).2.2
section
variable{P:Program}{w:World}{K:Frag}{mg:Str ->Option Value}{base:Heap}
noncomputable def D0b (CR CQ:Addr):Sp:=fun vs H Q _=>∃q,∃lv:Lv,vs=[.ref q]/\H q=some (.tup lv.ex)/\∀x H',Same H H' ->lv.At CR CQ H' x ->Q (.ref x) H'
theorem U0t:FnScope ["_law_exact"] ["_law_exact"] (A2 A2r):=scK
theorem G8t{f fR fQ CR CQ CE:Addr}{fd fdR fdQ:FuncData}{d0 d1:Value}{gP gQ:List Value ->List Value ->List Value}{vP vQ:List V ->List V ->List V}(D:Def K mg "_law_made" ["_law_exact"] A2r f fd)(MR:MakeR P w K mg base CR fR fdR d0 gP vP)(R:RatC K mg CR CE)(MQ:MakeQ P w K mg base CQ fQ fdQ d1 gQ vQ)(RQ:RooC K mg CQ CE):FnOk P w K mg base (CX1 P w) 3 f fd ["_law_exact"] (D0b CR CQ):=by
 refine D.F.okE U0t (fun vs H Q E h=>?_) (fun X cdv A outer s H vs Q E hX hr hx h=>?_)
 . obtain⟨q,lv,rfl,_⟩:=h
   rfl
 . subst hX
   obtain⟨q,lv,rfl,eq,k⟩:=h
   refine⟨_,(A4 (G6 (C4 G4 (G7 G2 (pv 0) A3 (fun _ _=>rfl)) B9 (B5 _)) (A6 (B3 (B2m MQ.m MQ.g hr RQ.g MQ.b3 .nil hx (A0 (G7 G2 (pv 0) A3 (fun _ _=>rfl)) (A0 (G7 G2 (pv 0) A3 (fun _ _=>rfl)) A5))))) C6)
     (A6 (B3 (B2m MR.m MR.g hr R.g MR.b3 .nil hx (A0 (G7 G2 (pv 0) A3 (fun _ _=>rfl)) (A0 (G7 G2 (pv 0) A3 (fun _ _=>rfl)) (A0 (G7 G2 (pv 0) A3 (fun _ _=>rfl)) A5))))))),?_⟩
   cases lv with
   | rat t b n=>
     exact⟨_,rfl,q,_,_,_,rfl,rfl,SqT.of eq,C0 (j:=0) rfl,rfl,_,rfl,J7 (by decide) ⟨_,rfl,q,_,_,_,rfl,rfl,SqT.of eq,C0 (j:=1) rfl,_,rfl,q,_,_,_,rfl,rfl,SqT.of eq,C0 (j:=2) rfl,_,rfl,q,_,_,_,rfl,rfl,SqT.of eq,C0 (j:=3) rfl,fun r dr m1 m2 me=>Y8r m1 m2 me fun H1 s1 ra=>⟨rfl,k r H1 s1 ra⟩⟩⟩
   | roo t n=>
     exact⟨_,rfl,q,_,_,_,rfl,rfl,SqT.of eq,C0 (j:=0) rfl,rfl,_,rfl,U7 rfl ⟨_,rfl,q,_,_,_,rfl,rfl,SqT.of eq,C0 (j:=1) rfl,_,rfl,q,_,_,_,rfl,rfl,SqT.of eq,C0 (j:=3) rfl,fun r dr m1 m2 me=>Z6c m1 m2 me fun H1 s1 ra=>⟨rfl,k r H1 s1 ra⟩⟩⟩
noncomputable def C9t (CN:Addr):Sp:=fun vs H Q _=>∃t q,∃(v:Cv) (s:Int) (lv:Lv) (i:Int),vs=[.ref t,.ref q,.int s,.int i]/\H t=some (.tup v.vs)/\v.Ok/\H q=some (.tup lv.ex)/\lv.Xv/\0<=s/\s<=1/\
 ∀r tt l n H',Same H H' ->H' r=some (.tup [.ref tt,.ref l,.ref n]) ->H' tt=some (.tup (setL v s lv i).1.vs) ->H' l=some (.lst ((A1d (setL v s lv i).2).map V.str)) ->NumIs CN H' n (setL v s lv i).1 ->Q (.ref r) H'
theorem scLTold13:FnScope ["_law_parts","_law_exact","_law_sign","_law_ideal","_law_context","_law_number"] ["_law_parts","_law_exact","_law_sign","_law_ideal"] (A2 A1z):=scK
theorem G8b{f f1 f2 f3 fI CC CN CB CB' CT CR CQ:Addr}{fd fd1 fd2 fd3 fdI:FuncData}(D:Def K mg "_law_told" ["_law_parts","_law_exact","_law_sign","_law_ideal"] A1z f fd)(dA:Def K mg "_law_made" ["_law_exact"] A2r f1 fd1)(dB:FnOk P w K mg base (CX1 P w) 3 f1 fd1 ["_law_exact"] (D0b CR CQ))
   (dC:Def K mg "settled" ["context","sign","exact","ideal"] A0p f2 fd2) (dD:FnOk P w K mg base (CX1 P w) 6 f2 fd2 ["context","sign","exact","ideal"] (B3d CN CC CT CR CQ)) (dE:Def K mg "told" ["number"] B9j f3 fd3) (dF:FnOk P w K mg base (CX1 P w) 2 f3 fd3 ["number"] (G7w K CN CB'))
   (MC:MakeC P w K mg base CC CB fI fdI) (B4:L2.Binds K fdI ["self","room","way","least","most"] []) (C:CtxC K mg CC) (MF:Has P w K mg base CC "flags" 1 ["self"] (A5e CC)):FnOk P w K mg base (CX1 P w) 8 f fd ["_law_parts","_law_exact","_law_sign","_law_ideal"] (C9t CN):=by
 refine D.F.okE scLTold13 (fun vs H Q E h=>?_) (fun X cdv A outer s H vs Q E hX hr hx h=>?_)
 . obtain⟨t,q,v,sg,lv,i,rfl,_⟩:=h
   rfl
 . subst hX
   obtain⟨t,q,v,sg,lv,i,rfl,et,ok,eq,xv,s0,s1,k⟩:=h
   obtain⟨ff,fdf,mf,gf,bf⟩:=MF
   refine⟨_,(A4 (B7 (C5 (i:=4) scLTold13.nd rfl (Or.inl rfl) (B2m MC.m MC.g hr C.g B4 .nil hx (A0 (G7 G2 (pv 0) A3 (fun _ _=>rfl)) (A0 (G7 G2 (pv 0) A3 (fun _ _=>rfl)) (A0 (G7 G2 (pv 0) A3 (fun _ _=>rfl)) (A0 (G7 G2 (pv 0) A3 (fun _ _=>rfl)) A5)))))))
     (A4 (B7 (C5 (i:=5) scLTold13.nd rfl (Or.inl rfl) (C8 dC dD hr hx (A0 (pv 4) (A0 (pv 2) (A0 (C8 dA dB hr hx (A0 (pv 1) A5)) (A0 (pv 3) A5)))))))
     (A6 (B3 (Y1 (A0 (C8 dE dF hr hx (A0 (pv 5) A5)) (A0 (A4x (pv 4) C.cl mf gf hr bf .nil hx) (A0 (pv 5) A5)))))))),?_⟩
   refine⟨fun σ' H'=>∃c a b,Same H H'/\H c=none/\CtxV CC H' c v a b [] []/\σ'=[some (.ref t),some (.ref q),some (.int sg),some (.int i),some (.ref c),none],?_,?_⟩
   . exact⟨_,rfl,t,_,_,_,rfl,rfl,SqT.of et,C0 (j:=0) rfl,_,rfl,t,_,_,_,rfl,rfl,SqT.of et,C0 (j:=1) rfl,_,rfl,t,_,_,_,rfl,rfl,SqT.of et,C0 (j:=2) rfl,_,rfl,t,_,_,_,rfl,rfl,SqT.of et,C0 (j:=3) rfl,fun x dx n1 n2 ne=>Y8z n1 n2 ne rfl ok.r1 ok.r2 rfl (.inr ⟨rfl,ok.l1,ok.l2⟩) rfl ok.m1 ok.m2 fun a b H4 s4 hc=>⟨rfl,x,a,b,s4,n1,hc,rfl⟩⟩
   rintro σ' H1 ⟨c,a,b,s1',nc,ct,rfl⟩
   refine⟨fun σ' H'=>∃n a,Same H H'/\CtxV CC H' c v a b (A1d (setL v sg lv i).2) []/\NumIs CN H' n (setL v sg lv i).1/\σ'=[some (.ref t),some (.ref q),some (.int sg),some (.int i),some (.ref c),some (.ref n)],?_,?_⟩
   . refine⟨_,rfl,_,rfl,_,rfl,q,lv,rfl,s1' _ _ eq,fun x H2 s2 ra=>⟨_,rfl,Z9y (ct.same s2) ok xv ra s0 s1 fun m a' H3 x3 c3 n3=>⟨m,a',fun z o e=>x3 _ _ (s2 _ _ (s1' _ _ e)) (D0 e nc),c3,n3,rfl⟩⟩⟩
   rintro σ' H2 ⟨n,a2,s2,ct2,num,rfl⟩
   refine⟨_,rfl,_,rfl,.inl ⟨n,_,_,_,_,rfl,num,fun tt nt=>?_⟩⟩
   have u1:=Same.upd (o:= .tup (setL v sg lv i).1.vs) nt
   have ct3:=ct2.same u1
   obtain⟨dx,ec⟩:=ct3.ins
   refine⟨_,rfl,c,dx,_,rfl,ec,B4w _ _ _ _ _ _,c,v.r,v.y,v.l,v.m,a2,b,_,_,rfl,ct3,fun l nl=>⟨_,rfl,C7 (show 3<=1000 by decide),fun r nr=>?_⟩⟩
   have u2:=Same.upd (o:= .lst ((A1d (setL v sg lv i).2).map V.str)) nl
   have u3:=Same.upd (o:= .tup [.ref tt,.ref l,.ref n]) nr
   exact k r tt l n _ (s2.trans (u1.trans (u2.trans u3))) A8 (u3 _ _ (u2 _ _ A8)) (u3 _ _ A8) (num.same (u1.trans (u2.trans u3)))
end
theorem U9h{ns:List Str}(h:ns=[]\/ns=(["faint"]:List Str)):(A1d ns).filter (fun z=> !decide (V.str z=V.str "faint"))=[]/\(A1d ns).length<=7:=by
 rcases h with rfl|rfl
 . exact⟨by decide+kernel,by decide+kernel⟩
 . exact⟨by decide+kernel,by decide+kernel⟩
theorem Std.in{v:Cv}{x:Nm}(h:Std v x)(ok:v.Ok):x.f<A1 500/\ -200<=x.p/\x.p<=200:=by
 have r1:=ok.r1;have r2:=ok.r2;have l1:=ok.l1;have l2:=ok.l2;have m1:=ok.m1;have m2:=ok.m2
 have:=h.f1
 have:=D8 (show v.r<=500 by omega)
 refine⟨by omega,?_⟩
 rcases h.k with e|⟨_,_,e⟩
 . have:=h.p e
   omega
 . omega
theorem C0b{n:Int}(h:0<=n):∃k:Nat,n=(k:Int)/\((10^k:Nat):Int)=A1 n:=by
 obtain⟨k,rfl⟩:=Int.eq_ofNat_of_zero_le h
 exact⟨k,rfl,rfl⟩
theorem Z1r{b:Bool}{A B:Prop}(h1:b=true ->A)(h2:b=false ->B):if b=true then A else B:=by
 cases b with
 |true=>exact h1 rfl
 |false=>exact h2 rfl
section
variable{P:Program}{w:World}{K:Frag}{mg:Str ->Option Value}{base:Heap}
noncomputable def G1y (CN:Addr):Sp:=fun vs H Q _=>∃t q n,∃(v:Cv) (x:Nm),vs=[.ref t,.ref q,.ref n]/\H t=some (.tup v.vs)/\v.Ok/\Std v x/\H q=some (.tup x.vs)/\NumIs CN H n x/\∀H',Same H H' ->Q (.bl true) H'
theorem scLAgain:FnScope ["_law_parts","_law_found","_law_number","_law_context","_law_again_here"] ["_law_parts","_law_found","_law_number"] (A2 A4z):=scK
theorem U0k{f f2 f3 fI CC CN CB CB' CT:Addr}{fd fd2 fd3 fdI:FuncData}(D:Def K mg "_law_again" ["_law_parts","_law_found","_law_number"] A4z f fd)
   (dA:Def K mg "rounded" ["context","number"] A2p f2 fd2) (dB:FnOk P w K mg base (CX1 P w) 7 f2 fd2 ["context","number"] (G3n CN CC CT)) (dC:Def K mg "told" ["number"] B9j f3 fd3) (dD:FnOk P w K mg base (CX1 P w) 2 f3 fd3 ["number"] (G7w K CN CB'))
   (MC:MakeC P w K mg base CC CB fI fdI) (B4:L2.Binds K fdI ["self","room","way","least","most"] []) (C:CtxC K mg CC) (MF:Has P w K mg base CC "flags" 1 ["self"] (A5e CC)):FnOk P w K mg base (CX1 P w) 9 f fd ["_law_parts","_law_found","_law_number"] (G1y CN):=by
 refine D.F.okE scLAgain (fun vs H Q E h=>?_) (fun X cdv A outer s H vs Q E hX hr hx h=>?_)
 . obtain⟨t,q,n,v,x,rfl,_⟩:=h
   rfl
 . subst hX
   obtain⟨t,q,n,v,x,rfl,et,ok,st,eq,num,k⟩:=h
   obtain⟨ff,fdf,mf,gf,bf⟩:=MF
   refine⟨_,(A4 (B7 (C5 (i:=3) scLAgain.nd rfl (Or.inl rfl) (B2m MC.m MC.g hr C.g B4 .nil hx (A0 (G7 G2 (pv 0) A3 (fun _ _=>rfl)) (A0 (G7 G2 (pv 0) A3 (fun _ _=>rfl)) (A0 (G7 G2 (pv 0) A3 (fun _ _=>rfl)) (A0 (G7 G2 (pv 0) A3 (fun _ _=>rfl)) A5)))))))
     (A4 (B7 (C5 (i:=4) scLAgain.nd rfl (Or.inl rfl) (C8 dA dB hr hx (A0 (pv 3) (A0 (pv 2) A5)))))
     (A6 (B3 (A2j (D3 (D2u hr.units) (C8 dC dD hr hx (A0 (pv 4) A5)) (pv 1) (B5 _)) (Y7 (D3 (D2u hr.units) (J7h (N:=["_law_name"]) ⟨rfl,by decide+kernel,by decide+kernel,by decide+kernel,by decide+kernel⟩ (.inl hr.hd) (G3a (A4x (pv 3) C.cl mf gf hr bf .nil hx)) rfl (fun C s₀ H₀ ex pn h=>J5 (i:=0) (by decide+kernel:(["_law_name"]:List Str).Nodup) rfl (Or.inl rfl)) (fun C s₀ H₀ ex pn h=>(C4 B2g (pv 0) B9 (B5 _))) (fun C s₀ H₀ ex pn h=>(pv 0))) (U5 A5) (B5 _)))))))),?_⟩
   refine⟨fun σ' H'=>∃c a b,Same H H'/\H c=none/\CtxV CC H' c v a b [] []/\σ'=[some (.ref t),some (.ref q),some (.ref n),some (.ref c),none],?_,?_⟩
   . exact⟨_,rfl,t,_,_,_,rfl,rfl,SqT.of et,C0 (j:=0) rfl,_,rfl,t,_,_,_,rfl,rfl,SqT.of et,C0 (j:=1) rfl,_,rfl,t,_,_,_,rfl,rfl,SqT.of et,C0 (j:=2) rfl,_,rfl,t,_,_,_,rfl,rfl,SqT.of et,C0 (j:=3) rfl,fun x dx n1 n2 ne=>Y8z n1 n2 ne rfl ok.r1 ok.r2 rfl (.inr ⟨rfl,ok.l1,ok.l2⟩) rfl ok.m1 ok.m2 fun a b H4 s4 hc=>⟨rfl,x,a,b,s4,n1,hc,rfl⟩⟩
   rintro σ' H1 ⟨c,a,b,s1,nc,ct,rfl⟩
   obtain⟨ns,er,hns⟩:=st.again ok
   obtain⟨i1,i2,i3⟩:=st.in ok
   refine⟨fun σ' H'=>∃m a,Same H H'/\CtxV CC H' c v a b (A1d ns) []/\NumIs CN H' m x/\σ'=[some (.ref t),some (.ref q),some (.ref n),some (.ref c),some (.ref m)],?_,?_⟩
   . refine⟨_,rfl,_,rfl,c,v,a,b,[],[],n,x,x.p+G8 x.f-1,rfl,ct,ok,by decide,by decide+kernel,num.same s1,st.s0,st.s1,st.f0,i1,i2,i3,fun _ hf=>st.lead ok hf,?_⟩
     rw[er]
     exact⟨fun _ m a' H3 x3 c3 n3=>⟨m,a',fun z o e=>x3 _ _ (s1 _ _ e) (D0 e nc),c3,n3,rfl⟩,fun z hz=>by cases hz⟩
   rintro σ' H2 ⟨m,a2,s2,ct2,U6m,rfl⟩
   refine⟨_,rfl,_,rfl,.inl ⟨m,_,_,_,_,rfl,U6m,fun tt nt=>⟨_,rfl,?_⟩⟩⟩
   have u1:=Same.upd (o:= .tup x.vs) nt
   refine⟨B9w x.k.str x.s x.f x.p,B9w x.k.str x.s x.f x.p,rdD A8,rdD (u1 _ _ (s2 _ _ eq)),shD _ _ _ (okK _),shD _ _ _ (okK _),_,rfl,?_⟩
   rw[if_neg Bool.false_ne_true,eqD]
   have ct3:=ct2.same u1
   obtain⟨dx,ec⟩:=ct3.ins
   obtain⟨nf,n7⟩:=U9h hns
   refine V2 ⟨_,rfl,c,dx,_,rfl,ec,B4w _ _ _ _ _ _,c,v.r,v.y,v.l,v.m,a2,b,_,_,rfl,ct3,fun l nl=>⟨l,rfl,⟨_,SqL.of A8⟩,G2w (fun z=> !decide (V.str z=V.str "faint")) A8 (by omega) (fun z H3 Qy Qn hy hn=>?_) (fun D H3 s3 nD eD=>⟨Nat.zero_le _,fun l2 n2=>?_⟩)⟩⟩
   . exact⟨_,rfl,rfl,_,rfl,Z1r (fun e=>⟨_,rfl,hy e⟩) hn⟩
   . have u2:=Same.upd (o:= .lst ((A1d ns).map V.str)) nl
     have u3:=Same.upd (o:= .lst []) n2
     rw[nf] at eD
     refine⟨rdS [],rdS [],B5y (u3 _ _ eD),B5y A8,shS ⟨by simp,by simp⟩,shS ⟨by simp,by simp⟩,?_⟩
     rw[if_neg Bool.false_ne_true,Z0t]
     exact k _ (s2.trans (u1.trans (u2.trans (s3.trans u3))))
noncomputable def G2n:Sp:=fun vs H Q _=>∃p q,∃(v:Cv) (x y:Nm),vs=[.ref p,.ref q]/\H p=some (.tup x.vs)/\H q=some (.tup y.vs)/\v.Ok/\Std v x/\Std v y/\Q (.bl (wlB x y)) H
theorem scLWorth:FnScope ["_law_one","_law_other","_law_low"] ["_law_one","_law_other"] (A2 A5f):=scK
theorem J8w(D:Def K mg "_law_worth_less" ["_law_one","_law_other"] A5f f fd)(dA:Def K mg "_law_ten" ["_law_count"] B2f f1 fd1)(dB:FnOk P w K mg base (CX1 P w) 1 f1 fd1 ["_law_count"] C1u)(O:Own mg):FnOk P w K mg base (CX1 P w) 2 f fd ["_law_one","_law_other"] G2n:=by
 refine D.F.okE scLWorth (fun vs H Q E h=>?_) (fun X cdv A outer s H vs Q E hX hr hx h=>?_)
 . obtain⟨p,q,v,x,y,rfl,_⟩:=h
   rfl
 . subst hX
   obtain⟨a1,a2,v,x,y,rfl,ep,eq,ok,sx,sy,k⟩:=h
   refine⟨_,(A4 (B7 (G6 (PW.pt (B9n (C4 G4 (G7 G2 (pv 0) A3 (fun _ _=>rfl)) B9 (B5 _)) (B5r (C4 G4 (G7 G2 (pv 1) A3 (fun _ _=>rfl)) B9 (B5 _))))) (A6 (B3 (A2j (D3 G4 (G7 G2 (pv 0) A3 (fun _ _=>rfl)) B9 (B5 _)) (Y7 (D3 B2g (G7 G2 (pv 1) A3 (fun _ _=>rfl)) B9 (B5 _)))))) C6))
     (A4 (B7 (C5 (i:=2) scLWorth.nd rfl (Or.inl rfl) (J2 (D0t rfl) (by rfl) O.min_ boot_min (A0 (G7 G2 (pv 0) A3 (fun _ _=>rfl)) (A0 (G7 G2 (pv 1) A3 (fun _ _=>rfl)) A5)))))
     (A6 (B3 (D3 B2e (A7 D6 (G7 G2 (pv 0) A3 (fun _ _=>rfl)) (C8 dA dB hr hx (A0 (A7 G9 (G7 G2 (pv 0) A3 (fun _ _=>rfl)) (pv 2)) A5))) (A7 D6 (G7 G2 (pv 1) A3 (fun _ _=>rfl)) (C8 dA dB hr hx (A0 (A7 G9 (G7 G2 (pv 1) A3 (fun _ _=>rfl)) (pv 2)) A5))) (B5 _)))))),?_⟩
   obtain⟨f1',p1,p2⟩:=sx.in ok
   obtain⟨g1',q1,q2⟩:=sy.in ok
   have xf:=sx.f1
   have yf:=sy.f1
   have xf0:=sx.f0
   have yf0:=sy.f0
   have t24:A1 v.r<=A1 200:=D8 (by have:=ok.r2;omega)
   have npl:¬V.str (Kd.str .plain)=V.str "end":=by decide+kernel
   have kx:=sx.k
   have ky:=sy.k
   rcases x with⟨k1,s1,f1,p⟩
   rcases y with⟨k2,s2,f2,q⟩
   have p1: -200<=p:=p1
   have p2:p<=200:=p2
   have q1: -200<=q:=q1
   have q2:q<=200:=q2
   have xf:f1<A1 v.r:=xf
   have yf:f2<A1 v.r:=yf
   rcases kx with e|⟨e,_⟩
   . have e:k1= .plain:=e
     subst e
     rcases ky with e|⟨e,_⟩
     . have e:k2= .plain:=e
       subst e
       refine⟨fun σ' H'=>H'=H/\σ'=[some (.ref a1),some (.ref a2),none],?_,?_⟩
       . exact⟨_,rfl,a1,_,_,_,rfl,rfl,SqT.of ep,C0 (j:=0) rfl,rfl,_,rfl,J7 npl ⟨_,rfl,a2,_,_,_,rfl,rfl,SqT.of eq,C0 (j:=0) rfl,rfl,_,rfl,J7 npl ⟨rfl,rfl⟩⟩⟩
       rintro σ' H1 ⟨rfl,rfl⟩
       refine⟨fun σ' H'=>H'=H1/\σ'=[some (.ref a1),some (.ref a2),some (.int (A1m p q))],?_,?_⟩
       . exact⟨_,rfl,a1,_,_,_,rfl,rfl,SqT.of ep,C0 (j:=3) rfl,_,rfl,a2,_,_,_,rfl,rfl,SqT.of eq,C0 (j:=3) rfl,_,_,rfl,rfl,rfl⟩
       rintro σ' H2 ⟨rfl,rfl⟩
       have ml:=U8c p q
       have mi:A1m p q=p\/A1m p q=q:=by unfold A1m;split<;>simp
       obtain⟨n1,en1,eT1⟩:=C0b (show 0<=p-A1m p q by omega)
       obtain⟨n2,en2,eT2⟩:=C0b (show 0<=q-A1m p q by omega)
       refine⟨_,rfl,a1,_,_,_,rfl,rfl,SqT.of ep,C0 (j:=2) rfl,_,rfl,a1,_,_,_,rfl,rfl,SqT.of ep,C0 (j:=3) rfl,_,rfl,_,_,rfl,rfl,n1,by show [V.int (p-A1m p q)]=_;rw[en1],by omega,_,_,rfl,rfl,by rw[eT1];exact C1d xf0 (by omega) (by omega),?_⟩
       refine⟨_,rfl,a2,_,_,_,rfl,rfl,SqT.of eq,C0 (j:=2) rfl,_,rfl,a2,_,_,_,rfl,rfl,SqT.of eq,C0 (j:=3) rfl,_,rfl,_,_,rfl,rfl,n2,by show [V.int (q-A1m p q)]=_;rw[en2],by omega,_,_,rfl,rfl,by rw[eT2];exact C1d yf0 (by omega) (by omega),_,_,rfl,rfl,?_⟩
       rw[eT1,eT2]
       exact k
     . have e:k2= .end_:=e
       subst e
       refine⟨fun σ' H'=>False,?_,fun _ _ h=>h.elim⟩
       exact⟨_,rfl,a1,_,_,_,rfl,rfl,SqT.of ep,C0 (j:=0) rfl,rfl,_,rfl,J7 npl ⟨_,rfl,a2,_,_,_,rfl,rfl,SqT.of eq,C0 (j:=0) rfl,rfl,_,rfl,U7 rfl ⟨_,rfl,a1,_,_,_,rfl,rfl,SqT.of ep,C0 (j:=0) rfl,rfl,_,rfl,J7 npl k⟩⟩⟩
   . have e:k1= .end_:=e
     subst e
     refine⟨fun σ' H'=>False,?_,fun _ _ h=>h.elim⟩
     rcases ky with e|⟨e,_⟩
     . have e:k2= .plain:=e
       subst e
       exact⟨_,rfl,a1,_,_,_,rfl,rfl,SqT.of ep,C0 (j:=0) rfl,rfl,_,rfl,U7 rfl ⟨_,rfl,a1,_,_,_,rfl,rfl,SqT.of ep,C0 (j:=0) rfl,rfl,_,rfl,U7 rfl ⟨_,rfl,a2,_,_,_,rfl,rfl,SqT.of eq,C0 (j:=0) rfl,rfl,k⟩⟩⟩
     . have e:k2= .end_:=e
       subst e
       exact⟨_,rfl,a1,_,_,_,rfl,rfl,SqT.of ep,C0 (j:=0) rfl,rfl,_,rfl,U7 rfl ⟨_,rfl,a1,_,_,_,rfl,rfl,SqT.of ep,C0 (j:=0) rfl,rfl,_,rfl,U7 rfl ⟨_,rfl,a2,_,_,_,rfl,rfl,SqT.of eq,C0 (j:=0) rfl,rfl,k⟩⟩⟩
end
noncomputable abbrev A0b:Stmt:=(top 68)
noncomputable abbrev stR (t q f fl:Addr) (s:Int) (v:Cv) (a b c d e g h k l m o:Option V):L2.St:=[some (.ref t),some (.ref q),some (.int s),some (.ref f),some (.ref fl),some (.int v.r),some (.str v.y.name),some (.int v.l),some (.int v.m),a,b,c,d,e,g,h,k,l,m,o]
noncomputable def D2d (b:Bool) (z:Str):List Str:=if b=true then [z] else []
theorem B4r(b:Bool)(z:Str):(List.replicate (if b=true then(1:Int) else 0).toNat [V.str z]).flatten=(D2d b z).map V.str:=by cases b<;>rfl
noncomputable def U8v (lo:Bool) (x:Bool):List Str:=D2d (lo&& !x) "sunk"++D2d lo "faint"++D2d (!x) "off"
theorem J9d(pt l L:Int)(cut:Bool):(A1d (Y3 pt cut++V6 l L pt)).filter (fun z=> !decide (V.str z=V.str "cut"))=U8v (decide (L<l)) (decide (pt=0))/\(pt≠0 ->inV (.str "cut") ((A1d (Y3 pt cut++V6 l L pt)).map V.str)=true):=by
 unfold Y3 V6
 by_cases p:pt=0
 . rw[if_pos p,if_pos p,decide_eq_true p]
   refine⟨?_,fun z=>absurd p z⟩
   by_cases g:L>=l
   . rw[if_pos g,decide_eq_false (by omega)]
     cases cut<;>decide+kernel
   . rw[if_neg g,decide_eq_true (by omega)]
     cases cut<;>decide+kernel
 . rw[if_neg p,if_neg p,decide_eq_false p]
   by_cases g:L>=l
   . rw[if_pos g,decide_eq_false (by omega)]
     exact⟨by decide+kernel,fun _=>by decide+kernel⟩
   . rw[if_neg g,decide_eq_true (by omega)]
     exact⟨by decide+kernel,fun _=>by decide+kernel⟩
theorem J6r(a b:Bool):OkL (U8v a b):=by cases a<;>cases b<;>exact⟨by decide+kernel,by decide+kernel⟩
theorem Z7f{y:Wy}{s w pt:Int}(h:pt≠0):upI y s w pt=w+(if y.goes s (w % 10) pt=true then 1 else 0):=by
 unfold upI
 rw[if_neg h]
 split<;>omega
theorem Z0n{u:Int}(h0:0<=u)(h:u<=A1 24):u.natAbs.log2<1920:=by
 have e:A1 24<2^300:=by decide+kernel
 refine Nat.lt_trans (V5 (i:=u) (k:=300) ?_ (by decide)) (by decide)
 have:u<2^300:=by omega
 have:((u.natAbs:Nat):Int)<((2^300:Nat):Int):=by
   rw[Int.natAbs_of_nonneg h0]
   exact this
 exact Int.ofNat_lt.mp this
theorem ag_x{lv:Lv}(h:lv.Ps)(q:Int):decide (V.int (lv.ag (lv.wh q) q)=V.int 0)=decide (lv.pt q=0):=by
 refine decide_eq_decide.mpr ?_
 rw[<-Y9y h q, <-ag_0]
 exact⟨fun e=>V.int.inj e,fun e=>congrArg V.int e⟩
theorem A2m(b:Bool)(z:V): -(2^63)<=(if b=true then(1:Int) else 0)/\(if b=true then(1:Int) else 0)<2^63/\ [z].length*(if b=true then(1:Int) else 0).toNat<=sizeLine:=by
 cases b
 . exact⟨by decide,by decide,C7 (by simp)⟩
 . exact⟨by decide,by decide,C7 (by simp)⟩
theorem A2z(b:Bool)(z:V):(List.replicate (if b=true then(1:Int) else 0).toNat [z]).flatten.length<=1:=by cases b<;>simp
theorem Z0g(zs:List Str):(A1d zs).length<=7:=List.length_filter_le _ _
section
variable{P:Program}{w:World}{K:Frag}{mg:Str ->Option Value}{base:Heap}
noncomputable def C1v:Sp:=fun vs H Q _=>∃t q f fl,∃(v:Cv) (s:Int) (lv:Lv) (i:Int),vs=[.ref t,.ref q,.int s,.ref f,.ref fl]/\H t=some (.tup v.vs)/\v.Ok/\H q=some (.tup lv.ex)/\lv.Xv/\0<=s/\s<=1/\H f=some (.tup (setL v s lv i).1.vs)/\H fl=some (.lst ((A1d (setL v s lv i).2).map V.str))/\∀H',Same H H' ->Q (.bl true) H'
theorem scLRight13:FnScope ["_law_parts","_law_exact","_law_sign","_law_found","_law_flags","_law_room","_law_name","_law_least","_law_most","_law_first","_law_finest","_law_near_here","_law_is_exact","_law_whole","_law_middle","_law_due","_law_kind","_law_side","_law_figures","_law_power"] ["_law_parts","_law_exact","_law_sign","_law_found","_law_flags"] (A2 A0b):=scK
theorem G2m(D:Def K mg "_law_right" ["_law_parts","_law_exact","_law_sign","_law_found","_law_flags"] A0b f fd)(dE:Def K mg "_law_leads" ["_law_exact"] A2x f1 fd1)(dF:FnOk P w K mg base (CX1 P w) 3 f1 fd1 ["_law_exact"] C0p)
   (dG:Def K mg "_law_near" ["_law_exact","_law_power"] B2w f2 fd2) (dH:FnOk P w K mg base (CX1 P w) 4 f2 fd2 ["_law_exact","_law_power"] J7s) (dC:Def K mg "_law_against" ["_law_exact","_law_whole","_law_power"] V8 f3 fd3) (dD:FnOk P w K mg base (CX1 P w) 2 f3 fd3 ["_law_exact","_law_whole","_law_power"] A5b)
   (dJ:Def K mg "_law_goes_up" ["_law_name","_law_sign","_law_near_here","_law_part"] B2x f4 fd4) (dL:FnOk P w K mg base (CX1 P w) 1 f4 fd4 ["_law_name","_law_sign","_law_near_here","_law_part"] J6a) (dM:Def K mg "_law_to_end" ["_law_name","_law_sign"] A5c f5 fd5) (dN:FnOk P w K mg base (CX1 P w) 1 f5 fd5 ["_law_name","_law_sign"] G3k)
   (dA:Def K mg "_law_ten" ["_law_count"] B2f f6 fd6) (dB:FnOk P w K mg base (CX1 P w) 1 f6 fd6 ["_law_count"] C1u) (O:Own mg):FnOk P w K mg base (CX1 P w) 5 f fd ["_law_parts","_law_exact","_law_sign","_law_found","_law_flags"] C1v:=by
 refine D.F.okE scLRight13 (fun vs H Q E h=>?_) (fun X cdv A outer s H vs Q E hX hr hx h=>?_)
 . obtain⟨t,q,f,fl,v,sg,lv,i,rfl,_⟩:=h
   rfl
 . subst hX
   obtain⟨t,q,f,fl,v,sg,lv,i,rfl,et,ok,eq,xv,s0,s1,ef,efl,k⟩:=h
   refine⟨_,(A4 (B7 (C1h (pv 0) (C1s rfl (J9 (J5 (i:=5) scLRight13.nd rfl (Or.inl rfl)) (J9 (J5 (i:=6) scLRight13.nd rfl (Or.inl rfl)) (J9 (J5 (i:=7) scLRight13.nd rfl (Or.inl rfl)) (J9 (J5 (i:=8) scLRight13.nd rfl (Or.inl rfl)) B4s)))))))
     (A4 (B7 (C5 (i:=9) scLRight13.nd rfl (Or.inl rfl) (C8 dE dF hr hx (A0 (pv 1) A5))))
     (A4 (B7 (C5 (i:=10) scLRight13.nd rfl (Or.inl rfl) (A7 D9 (A7 G9 (J2 (V1 rfl) (by rfl) O.max_ boot_max (A0 (pv 9) (A0 (pv 7) A5))) (pv 5)) A3)))
     (A4 (B7 (C5 (i:=11) scLRight13.nd rfl (Or.inl rfl) (C8 dG dH hr hx (A0 (pv 1) (A0 (pv 10) A5)))))
     (A4 (B7 (C5 (i:=12) scLRight13.nd rfl (Or.inl rfl) (D3 G4 (C8 dC dD hr hx (A0 (pv 1) (A0 (pv 11) (A0 (pv 10) A5)))) A3 (B5 _))))
     (A4 (B7 (C5 (i:=13) scLRight13.nd rfl (Or.inl rfl) (pv 11)))
     (A4 (B7 (G6 (A2b (V3 (pv 12))) (A4 (B7 (C5 (i:=14) scLRight13.nd rfl (Or.inl rfl) (C8 dC dD hr hx (A0 (pv 1) (A0 (A7 D9 (A7 D6 A3 (pv 11)) A3) (A0 (A7 G9 (pv 10) A3) A5))))))
     (A6 (B7 (C5 (i:=13) scLRight13.nd rfl (Or.inl rfl) (A7 D9 (pv 11) (J8 A1x (by rfl) O.int_ boot_int (A0 (C8 dJ dL hr hx (A0 (pv 6) (A0 (pv 2) (A0 (pv 11) (A0 (A7 G9 A3 (pv 14)) A5))))) A5))))))) C6))
     (A4 (B7 (C5 (i:=15) scLRight13.nd rfl (Or.inl rfl) (A7 G8v (U5 (A0 B9 A5)) (J8 A1x (by rfl) O.int_ boot_int (A0 (G7z (pv 12)) A5)))))
     (A4 (B7 (C5 (i:=15) scLRight13.nd rfl (Or.inl rfl) (A7 D1x (A7 D1x (A7 G8v (U5 (A0 B9 A5)) (J8 A1x (by rfl) O.int_ boot_int (A0 (A2j (D3 B9k (pv 9) (pv 7) (B5 _)) (Y7 (G7z (pv 12)))) A5))) (A7 G8v (U5 (A0 B9 A5)) (J8 A1x (by rfl) O.int_ boot_int (A0 (D3 B9k (pv 9) (pv 7) (B5 _)) A5)))) (pv 15))))
     (A4 (B7 (G6 (PW.pt (D2a (C4 B2e (A7 D9 (A7 G9 (J2 U9 (by rfl) O.len_ PySem.boot_len (A0 (J8 U3 (by rfl) O.str_ boot_str (A0 (pv 13) A5)) A5)) A3) (pv 10)) (pv 8) (B5 _)) (C0c (C4 B2e (pv 13) A3 (B5 _))))) (A4 (B7 (G6 (C4 (U8j hr.units) (pv 4) (U5 (A0 B9 (A0 B9 (A0 B9 A5)))) (B5 _)) (A6 (B3 A1h)) C6))
     (A4 (B7 (G6 (V3 (C8 dM dN hr hx (A0 (pv 6) (A0 (pv 2) A5)))) (A6 (B3 (D3 (D2u hr.units) (pv 3) (Y1 (A0 B9 (A0 (pv 2) (A0 A3 (A0 A3 A5))))) (B5 _)))) C6))
     (A6 (B3 (D3 (D2u hr.units) (pv 3) (Y1 (A0 B9 (A0 (pv 2) (A0 (A7 G9 (C8 dA dB hr hx (A0 (pv 5) A5)) A3) (A0 (A7 D9 (A7 G9 (pv 8) (pv 5)) A3) A5))))) (B5 _)))))) C6))
     (A4 (B7 (G6 (PW.pt (B9n (C4 (U8j hr.units) (J7h (N:=["_law_name"]) ⟨rfl,by decide+kernel,by decide+kernel,by decide+kernel,by decide+kernel⟩ (.inl hr.hd) (G3a (pv 4)) rfl (fun C s₀ H₀ ex pn h=>J5 (i:=0) (by decide+kernel:(["_law_name"]:List Str).Nodup) rfl (Or.inl rfl)) (fun C s₀ H₀ ex pn h=>(C4 B2g (pv 0) B9 (B5 _))) (fun C s₀ H₀ ex pn h=>(pv 0))) (pv 15) (B5 _)) (B5r (PW.pt (D2a (A2b (V3 (pv 12))) (C0c (C4 B4k B9 (pv 4) (by rfl)))))))) (A6 (B3 A1h)) C6))
     (A4 (B7 (C1h (pv 3) (C1s rfl (J9 (J5 (i:=16) scLRight13.nd rfl (Or.inl rfl)) (J9 (J5 (i:=17) scLRight13.nd rfl (Or.inl rfl)) (J9 (J5 (i:=18) scLRight13.nd rfl (Or.inl rfl)) (J9 (J5 (i:=19) scLRight13.nd rfl (Or.inl rfl)) B4s)))))))
     (A4 (B7 (G6 (PW.pt (B9n (C4 B2g (pv 16) B9 (B5 _)) (B9n (C4 B2g (pv 17) (pv 2) (B5 _)) (B9n (C4 B2e (pv 18) (A7 G9 (C8 dA dB hr hx (A0 (pv 5) A5)) A3) (B5 _)) (B5r (C4 B9k (pv 19) (A7 D9 (A7 G9 (pv 7) (pv 5)) A3) (B5 _))))))) (A6 (B3 A1h)) C6))
     (A4 (B7 (G6 (C4 G4 (pv 13) A3 (B5 _)) (A6 (B3 (A2j (D3 G4 (pv 18) A3 (B5 _)) (Y7 (D3 G4 (pv 19) (pv 10) (B5 _)))))) C6))
     (A6 (B3 (A2j (D3 J6e (pv 19) (pv 10) (B5 _)) (Y7 (D3 G4 (A7 D6 (pv 18) (C8 dA dB hr hx (A0 (A7 G9 (pv 19) (pv 10)) A5))) (pv 13) (B5 _)))))))))))))))))))),?_⟩
   have S:=xv.set ok s0 s1
   have r1:=ok.r1;have r2:=ok.r2;have l1:=ok.l1;have l2:=ok.l2;have m1:=ok.m1;have m2:=ok.m2
   obtain⟨_,_,L0,L1⟩:=xv.g
   have ps:=xv.ps
   have fb:=G2x ok lv.L
   have w0:=S.w0
   have w1:=S.w1
   have t24:A1 v.r<=A1 24:=D8 r2
   have e24:A1 24=1000000000000000000000000:=by decide+kernel
   have e30:A1 30=1000000000000000000000000000000:=by decide+kernel
   have n:=S.near i
   have u0:=S.up0
   have pti:=U9d lv (v.fin lv.L) ps
   have fi:=C1e (v:=v) lv.L
   have z1:1<=sizeLine:=C7 (by decide)
   have z3:3<=sizeLine:=C7 (by decide)
   have z4:4<=sizeLine:=C7 (by decide)
   obtain⟨nr,enr,eTr⟩:=C0b (show 0<=v.r by omega)
   refine⟨fun σ' H'=>H'=H/\σ'=stR t q f fl sg v none none none none none none none none none none none,⟨_,rfl,t,_,rfl,SqT.of et,rfl,_,_,rfl,_,_,rfl,_,_,rfl,_,_,rfl,rfl,rfl,rfl⟩,?_⟩
   rintro σ' H1 ⟨rfl,rfl⟩
   refine⟨fun σ' H'=>H'=H1/\σ'=stR t q f fl sg v (some (.int lv.L)) none none none none none none none none none none,⟨_,rfl,q,lv,rfl,eq,xv,rfl,rfl⟩,?_⟩
   rintro σ' H2 ⟨rfl,rfl⟩
   refine⟨fun σ' H'=>H'=H2/\σ'=stR t q f fl sg v (some (.int lv.L)) (some (.int (v.fin lv.L))) none none none none none none none none none,⟨_,rfl,_,rfl,_,_,rfl,_,rfl,_,_,rfl,rfl,_,_,rfl,rfl,rfl,by rw[fi];rfl⟩,?_⟩
   rintro σ' H3 ⟨rfl,rfl⟩
   refine⟨fun σ' H'=>H'=H3/\σ'=stR t q f fl sg v (some (.int lv.L)) (some (.int (v.fin lv.L))) (some (.int (lv.wh (v.fin lv.L)))) none none none none none none none none,⟨_,rfl,_,rfl,q,lv,_,rfl,eq,xv,by omega,by omega,by omega,rfl,rfl⟩,?_⟩
   rintro σ' H4 ⟨rfl,rfl⟩
   refine⟨fun σ' H'=>H'=H4/\σ'=stR t q f fl sg v (some (.int lv.L)) (some (.int (v.fin lv.L))) (some (.int (lv.wh (v.fin lv.L)))) (some (.bl (decide (lv.pt (v.fin lv.L)=0)))) none none none none none none none,⟨_,rfl,_,rfl,_,rfl,q,lv,_,_,rfl,eq,xv,w0,by omega,by omega,by omega,rfl,rfl,by rw[ag_x ps];rfl⟩,?_⟩
   rintro σ' H5 ⟨rfl,rfl⟩
   refine⟨fun σ' H'=>H'=H5/\σ'=stR t q f fl sg v (some (.int lv.L)) (some (.int (v.fin lv.L))) (some (.int (lv.wh (v.fin lv.L)))) (some (.bl (decide (lv.pt (v.fin lv.L)=0)))) (some (.int (lv.wh (v.fin lv.L)))) none none none none none none,⟨_,rfl,rfl,rfl⟩,?_⟩
   rintro σ' H6 ⟨rfl,rfl⟩
   refine⟨fun σ' H'=>∃z14,Same H6 H'/\σ'=stR t q f fl sg v (some (.int lv.L)) (some (.int (v.fin lv.L))) (some (.int (lv.wh (v.fin lv.L)))) (some (.bl (decide (lv.pt (v.fin lv.L)=0)))) (some (.int (upL v sg lv))) z14 none none none none none,?_,?_⟩
   . refine⟨_,rfl,_,rfl,?_⟩
     by_cases p0:lv.pt (v.fin lv.L)=0
     . rw[decide_eq_true p0]
       refine J4 ⟨none,Same.refl _,?_⟩
       rw[show upL v sg lv=lv.wh (v.fin lv.L) from(B4t _ _ _ _).2.2 p0]
     . rw[decide_eq_false p0]
       refine V2 ?_
       have p2:=Z9m ps (v.fin lv.L) p0
       refine⟨fun σ' H'=>∃z,H'=H6/\2-z=lv.pt (v.fin lv.L)/\σ'=stR t q f fl sg v (some (.int lv.L)) (some (.int (v.fin lv.L))) (some (.int (lv.wh (v.fin lv.L)))) (some (.bl false)) (some (.int (lv.wh (v.fin lv.L)))) (some (.int z)) none none none none none,?_,?_⟩
       . exact⟨_,rfl,_,rfl,_,_,rfl,rfl,CMul.ok (.inl ⟨by decide,by decide⟩),_,_,rfl,rfl,_,rfl,_,_,rfl,rfl,q,lv,_,_,rfl,eq,xv,by omega,by omega,by omega,by omega,_,rfl,p2,rfl⟩
       rintro σ' H7 ⟨z,rfl,hz,rfl⟩
       refine⟨_,?_,fun _ _ h=>h⟩
       obtain⟨nw,enw⟩:=Int.eq_ofNat_of_zero_le w0
       refine⟨_,rfl,_,rfl,_,rfl,_,rfl,_,rfl,_,_,rfl,rfl,v.y,sg,lv.pt (v.fin lv.L),nw,?_,?_,by omega,by omega,fun H8 s8=> .inr ⟨_,rfl,_,_,rfl,rfl,some (.int z),s8,?_⟩⟩
       . rw[<-enw, <-hz]
         rfl
       . have e3:A1 24<2^300:=by decide+kernel
         have:(nw:Int)<((2^300:Nat):Int):=by
           rw[<-enw]
           show _<(2:Int)^300
           omega
         exact Int.ofNat_lt.mp this
       . unfold upL
         rw[Z7f p0,enw]
         rfl
   rintro σ' H7 ⟨z14,s7,rfl⟩
   refine⟨fun σ' H'=>∃l,Same H6 H'/\H' l=some (.lst ((D2d (!decide (lv.pt (v.fin lv.L)=0)) "off").map V.str))/\σ'=stR t q f fl sg v (some (.int lv.L)) (some (.int (v.fin lv.L))) (some (.int (lv.wh (v.fin lv.L)))) (some (.bl (decide (lv.pt (v.fin lv.L)=0)))) (some (.int (upL v sg lv))) z14 (some (.ref l)) none none none none,?_,?_⟩
   . refine⟨z1,fun l nl=>⟨_,rfl,_,rfl,.inr ⟨_,rfl,l,_,_,rfl,rfl,A8,(A2m _ .non).1,(A2m _ .non).2.1,(A2m _ _).2.2,fun p np=>⟨p,s7.trans ((Same.upd nl).trans (Same.upd np)),?_,rfl⟩⟩⟩⟩
     rw[A8,B4r]
   rintro σ' H8 ⟨l,s8,el,rfl⟩
   refine⟨fun σ' H'=>∃l,Same H6 H'/\H' l=some (.lst ((U8v (decide (lv.L<v.l)) (decide (lv.pt (v.fin lv.L)=0))).map V.str))/\σ'=stR t q f fl sg v (some (.int lv.L)) (some (.int (v.fin lv.L))) (some (.int (lv.wh (v.fin lv.L)))) (some (.bl (decide (lv.pt (v.fin lv.L)=0)))) (some (.int (upL v sg lv))) z14 (some (.ref l)) none none none none,?_,?_⟩
   . refine⟨z1,fun l1 nl1=>⟨_,rfl,_,rfl,_,_,rfl,rfl,_,rfl,?_⟩⟩
     by_cases g:lv.L<v.l
     . rw[decide_eq_true g]
       refine V2 ⟨_,rfl,_,rfl,.inr ⟨_,rfl,l1,_,_,rfl,rfl,A8,(A2m _ .non).1,(A2m _ .non).2.1,(A2m _ _).2.2,fun p1 np1=>?_⟩⟩
       refine⟨z1,fun l2 n2=>⟨_,rfl,_,rfl,_,_,rfl,rfl,.inr ⟨_,rfl,l2,_,_,rfl,rfl,A8,(A2m _ .non).1,(A2m _ .non).2.1,(A2m _ _).2.2,fun p2 np2=>?_⟩⟩⟩
       refine⟨p1,p2,_,_,rfl,rfl,Same.upd np2 _ _ (Same.upd n2 _ _ A8),A8,C7 (Nat.le_trans (Nat.add_le_add (A2z _ _) (A2z _ _)) (by decide)),fun p3 np3=>⟨_,rfl,p3,l,_,_,rfl,rfl,A8,(Same.upd nl1).trans ((Same.upd np1).trans ((Same.upd n2).trans ((Same.upd np2).trans (Same.upd np3)))) _ _ el,?_,fun p4 np4=>⟨p4,?_,?_,rfl⟩⟩⟩
       . refine C7 ?_
         rw[List.length_append,List.length_map]
         have a:=A2z (!decide (lv.pt (v.fin lv.L)=0)) (V.str "sunk")
         have b:=A2z (decide (lv.L<v.l)) (V.str "faint")
         have c:(D2d (!decide (lv.pt (v.fin lv.L)=0)) "off").length<=1:=by unfold D2d;split<;>simp
         omega
       . exact s8.trans ((Same.upd nl1).trans ((Same.upd np1).trans ((Same.upd n2).trans ((Same.upd np2).trans ((Same.upd np3).trans (Same.upd np4))))))
       . rw[A8,B4r,B4r]
         unfold U8v
         rw[List.map_append,List.map_append,decide_eq_true g]
         rfl
     . rw[decide_eq_false g]
       refine J4 (.inr ⟨_,rfl,l1,_,_,rfl,rfl,A8,(A2m _ .non).1,(A2m _ .non).2.1,(A2m _ _).2.2,fun p1 np1=>?_⟩)
       refine⟨z1,fun l2 n2=>⟨_,rfl,_,rfl,_,_,rfl,rfl,.inr ⟨_,rfl,l2,_,_,rfl,rfl,A8,(A2m _ .non).1,(A2m _ .non).2.1,(A2m _ _).2.2,fun p2 np2=>?_⟩⟩⟩
       refine⟨p1,p2,_,_,rfl,rfl,Same.upd np2 _ _ (Same.upd n2 _ _ A8),A8,C7 (Nat.le_trans (Nat.add_le_add (A2z _ _) (A2z _ _)) (by decide)),fun p3 np3=>⟨_,rfl,p3,l,_,_,rfl,rfl,A8,(Same.upd nl1).trans ((Same.upd np1).trans ((Same.upd n2).trans ((Same.upd np2).trans (Same.upd np3)))) _ _ el,?_,fun p4 np4=>⟨p4,?_,?_,rfl⟩⟩⟩
       . refine C7 ?_
         rw[List.length_append,List.length_map]
         have a:=A2z false (V.str "sunk")
         have b:=A2z (decide (lv.L<v.l)) (V.str "faint")
         have c:(D2d (!decide (lv.pt (v.fin lv.L)=0)) "off").length<=1:=by unfold D2d;split<;>simp
         omega
       . exact s8.trans ((Same.upd nl1).trans ((Same.upd np1).trans ((Same.upd n2).trans ((Same.upd np2).trans ((Same.upd np3).trans (Same.upd np4))))))
       . rw[A8,B4r,B4r]
         unfold U8v
         rw[List.map_append,List.map_append,decide_eq_false g]
         rfl
   clear el s8 l s7 H7
   rintro σ' H9 ⟨l,s9,el,rfl⟩
   have lg:=Z0n u0.1 (by omega)
   have bey:=n.beyond (m:=v.m) u0.1
   have std:=S.std i
   have sl:=B4j v sg lv i
   by_cases b:U0 v.m (neL v sg lv i).1 (neL v sg lv i).2=true
   . rw[if_pos b] at sl
     rw[sl] at ef efl
     obtain⟨b1,b2⟩:=bey.mp b
     refine⟨fun σ' H'=>False,?_,fun _ _ h=>h.elim⟩
     refine⟨_,rfl,_,rfl,lg,_,rfl,int_text_fits lg,_,_,rfl,rfl,_,rfl,_,_,rfl,rfl,_,rfl,_,_,rfl,rfl,_,rfl,U7 b1 ⟨_,rfl,_,_,rfl,rfl,_,rfl,U7 b2 ?_⟩⟩
     have eo:A1d (["burst","off","cut"]:List Str)=(["burst","off","cut"]:List Str):=by decide+kernel
     have ok3:OkL (["burst","off","cut"]:List Str):=⟨by decide+kernel,by decide+kernel⟩
     have efl9:=s9 _ _ efl
     rw[eo] at efl9
     refine⟨fun σ' H'=>Same H9 H'/\σ'=stR t q f fl sg v (some (.int lv.L)) (some (.int (v.fin lv.L))) (some (.int (lv.wh (v.fin lv.L)))) (some (.bl (decide (lv.pt (v.fin lv.L)=0)))) (some (.int (upL v sg lv))) z14 (some (.ref l)) none none none none,?_,?_⟩
     . refine⟨_,rfl,z3,fun l2 n2=>⟨rdS ["burst","off","cut"],rdS ["burst","off","cut"],B5y (Same.upd n2 _ _ efl9),B5y A8,shS ok3,shS ok3,_,rfl,?_⟩⟩
       rw[if_pos rfl,Z0t]
       exact J4 ⟨Same.upd n2,rfl⟩
     rintro σ' H10 ⟨s10,rfl⟩
     have ef10:=s10 _ _ (s9 _ _ ef)
     refine⟨fun σ' H'=>Same H10 H'/\v.y.toEnd sg=false/\σ'=stR t q f fl sg v (some (.int lv.L)) (some (.int (v.fin lv.L))) (some (.int (lv.wh (v.fin lv.L)))) (some (.bl (decide (lv.pt (v.fin lv.L)=0)))) (some (.int (upL v sg lv))) z14 (some (.ref l)) none none none none,?_,?_⟩
     . refine⟨_,rfl,_,rfl,v.y,sg,rfl,s0,s1,fun H11 s11=>⟨_,rfl,Z1r (fun e=>?_) (fun e=>⟨s11,e,rfl⟩)⟩⟩
       have ef11:=s11 _ _ ef10
       have eb:V7 v sg=⟨.end_,sg,0,0⟩:=by unfold V7;rw[if_pos e]
       have ef11:H11 f=some (.tup [.str "end",.int sg,.int 0,.int 0]):=by rw[ef11];show some (HO.tup (V7 v sg).vs)=_;rw[eb];rfl
       refine⟨_,rfl,_,rfl,z4,fun q2 nq2=>⟨B9w "end" sg 0 0,B9w "end" sg 0 0,rdD (Same.upd nq2 _ _ ef11),rdD A8,shD _ _ _ (okK .end_),shD _ _ _ (okK .end_),?_⟩⟩
       rw[if_neg Bool.false_ne_true,eqD]
       exact k _ (s9.trans (s10.trans (s11.trans (Same.upd nq2))))
     rintro σ' H11 ⟨s11,e,rfl⟩
     have ef11:=s11 _ _ ef10
     have eb:V7 v sg=⟨.plain,sg,A1 v.r-1,v.m-v.r+1⟩:=by unfold V7;rw[if_neg (by rw[e];exact Bool.false_ne_true)]
     have ef11:H11 f=some (.tup [.str "plain",.int sg,.int (((10^nr:Nat):Int)-1),.int (v.m-v.r+1)]):=by rw[ef11,eTr];show some (HO.tup (V7 v sg).vs)=_;rw[eb];rfl
     refine⟨_,rfl,_,rfl,_,rfl,nr,by show [V.int v.r]=_;rw[enr],by omega,_,_,rfl,rfl,_,rfl,_,rfl,_,_,rfl,rfl,_,_,rfl,rfl,z4,fun q2 nq2=>⟨B9w "plain" sg (((10^nr:Nat):Int)-1) (v.m-v.r+1),B9w "plain" sg (((10^nr:Nat):Int)-1) (v.m-v.r+1),rdD (Same.upd nq2 _ _ ef11),rdD A8,shD _ _ _ (okK .plain),shD _ _ _ (okK .plain),?_⟩⟩
     rw[if_neg Bool.false_ne_true,eqD]
     exact k _ (s9.trans (s10.trans (s11.trans (Same.upd nq2))))
   . rw[if_neg b] at sl
     rw[sl] at ef efl std
     obtain⟨sp0,sp1,_⟩:=std.p rfl
     have sp0:v.l-v.r+1<=(neL v sg lv i).2:=sp0
     have sp1:(neL v sg lv i).2<=v.m:=sp1
     have nf0:=n.f0
     have nf1:=n.f1
     have nhq:=n.hq
     have ne:=n.e
     have nz:=n.z
     have nb:¬(G8 (upL v sg lv)-1+v.fin lv.L>v.m/\upL v sg lv>0):=fun h=>b (bey.mpr h)
     obtain⟨fd1,fd2⟩:=J9d (lv.pt (v.fin lv.L)) v.l lv.L (decide ((neL v sg lv i).2>i))
     have ef9:H9 f=some (.tup [.str "plain",.int sg,.int (neL v sg lv i).1,.int (neL v sg lv i).2]):=s9 _ _ ef
     have efl9:=s9 _ _ efl
     have l7:=Z0g (Y3 (lv.pt (v.fin lv.L)) (decide ((neL v sg lv i).2>i))++V6 v.l lv.L (lv.pt (v.fin lv.L)))
     generalize (neL v sg lv i).1=F at*
     generalize (neL v sg lv i).2=G at*
     refine⟨fun σ' H'=>H'=H9/\σ'=stR t q f fl sg v (some (.int lv.L)) (some (.int (v.fin lv.L))) (some (.int (lv.wh (v.fin lv.L)))) (some (.bl (decide (lv.pt (v.fin lv.L)=0)))) (some (.int (upL v sg lv))) z14 (some (.ref l)) none none none none,?_,?_⟩
     . refine⟨_,rfl,_,rfl,lg,_,rfl,int_text_fits lg,_,_,rfl,rfl,_,rfl,_,_,rfl,rfl,_,rfl,_,_,rfl,rfl,_,rfl,?_⟩
       by_cases c:G8 (upL v sg lv)-1+v.fin lv.L>v.m
       . exact U7 c ⟨_,rfl,_,_,rfl,rfl,_,rfl,J7 (fun z=>nb ⟨c,z⟩) ⟨rfl,rfl⟩⟩
       . exact J7 c ⟨rfl,rfl⟩
     rintro σ' H10 ⟨rfl,rfl⟩
     refine⟨fun σ' H'=>Same H10 H'/\σ'=stR t q f fl sg v (some (.int lv.L)) (some (.int (v.fin lv.L))) (some (.int (lv.wh (v.fin lv.L)))) (some (.bl (decide (lv.pt (v.fin lv.L)=0)))) (some (.int (upL v sg lv))) z14 (some (.ref l)) none none none none,?_,?_⟩
     . refine⟨_,rfl,fl,rfl,⟨_,SqL.of efl9⟩,G2w (fun z=> !decide (V.str z=V.str "cut")) efl9 (by show(A1d (Y3 (lv.pt (v.fin lv.L)) (decide (G>i))++V6 v.l lv.L (lv.pt (v.fin lv.L)))).length<=1000;omega) (fun z H3 Qy Qn hy hn=>⟨_,rfl,rfl,_,rfl,Z1r (fun e=>⟨_,rfl,hy e⟩) hn⟩) (fun D H11 s11 nD eD=>?_)⟩
       rw[fd1] at eD
       refine⟨_,rfl,rdS _,rdS _,B5y eD,B5y (s11 _ _ el),shS (J6r _ _),shS (J6r _ _),_,rfl,?_⟩
       rw[if_pos rfl,Z0t]
       refine J4 ⟨_,rfl,_,rfl,?_⟩
       by_cases p0:lv.pt (v.fin lv.L)=0
       . rw[decide_eq_true p0]
         exact J4 ⟨s11,rfl⟩
       . rw[decide_eq_false p0]
         refine V2 ⟨_,rfl,fl,_,rfl,.inl (SqL.of (s11 _ _ efl9)),rfl,by simp[B2j],_,rfl,?_⟩
         rw[if_pos rfl,fd2 p0]
         exact J4 ⟨s11,rfl⟩
     rintro σ' H11 ⟨s11,rfl⟩
     refine⟨fun σ' H'=>H'=H11/\σ'=stR t q f fl sg v (some (.int lv.L)) (some (.int (v.fin lv.L))) (some (.int (lv.wh (v.fin lv.L)))) (some (.bl (decide (lv.pt (v.fin lv.L)=0)))) (some (.int (upL v sg lv))) z14 (some (.ref l)) (some (.str "plain")) (some (.int sg)) (some (.int F)) (some (.int G)),⟨_,rfl,f,_,rfl,SqT.of (s11 _ _ ef9),rfl,_,_,rfl,_,_,rfl,_,_,rfl,_,_,rfl,rfl,rfl,rfl⟩,?_⟩
     rintro σ' H12 ⟨rfl,rfl⟩
     refine⟨fun σ' H'=>H'=H12/\σ'=stR t q f fl sg v (some (.int lv.L)) (some (.int (v.fin lv.L))) (some (.int (lv.wh (v.fin lv.L)))) (some (.bl (decide (lv.pt (v.fin lv.L)=0)))) (some (.int (upL v sg lv))) z14 (some (.ref l)) (some (.str "plain")) (some (.int sg)) (some (.int F)) (some (.int G)),?_,?_⟩
     . refine⟨_,rfl,rfl,_,rfl,G2g rfl ⟨_,rfl,_,rfl,rfl,_,rfl,G2g rfl ⟨_,rfl,_,rfl,nr,by show [V.int v.r]=_;rw[enr],by omega,_,_,rfl,rfl,_,_,rfl,rfl,_,rfl,?_⟩⟩⟩
       rw[eTr]
       exact J7 (show¬F>A1 v.r-1 by omega) ⟨_,rfl,_,rfl,_,rfl,_,_,rfl,rfl,_,_,rfl,rfl,_,_,rfl,rfl,_,rfl,J7 (show¬G<v.l-v.r+1 by omega) ⟨rfl,rfl⟩⟩
     rintro σ' H13 ⟨rfl,rfl⟩
     refine⟨fun σ' H'=>H'=H13/\upL v sg lv≠0/\σ'=stR t q f fl sg v (some (.int lv.L)) (some (.int (v.fin lv.L))) (some (.int (lv.wh (v.fin lv.L)))) (some (.bl (decide (lv.pt (v.fin lv.L)=0)))) (some (.int (upL v sg lv))) z14 (some (.ref l)) (some (.str "plain")) (some (.int sg)) (some (.int F)) (some (.int G)),?_,?_⟩
     . refine⟨_,rfl,rfl,_,rfl,V0 (fun h=>?_) (fun h=>⟨rfl,fun z=>h (congrArg V.int z),rfl⟩)⟩
       obtain⟨za,zb⟩:=nz (V.int.inj h)
       refine⟨_,rfl,rfl,_,rfl,U7 (congrArg V.int za) ⟨_,rfl,_,rfl,rfl,?_⟩⟩
       rw[decide_eq_true (congrArg V.int zb)]
       exact k _ (s9.trans s11)
     rintro σ' H14 ⟨rfl,unz,rfl⟩
     obtain⟨np,enp,eTp⟩:=C0b (show 0<=G-v.fin lv.L by omega)
     refine⟨_,rfl,_,rfl,_,_,rfl,rfl,_,rfl,U7 (show G>=v.fin lv.L by omega) ⟨_,rfl,_,rfl,_,rfl,_,_,rfl,rfl,np,by show [V.int (G-v.fin lv.L)]=_;rw[enp],by omega,_,_,rfl,rfl,by rw[eTp];exact C1d nf0 (Int.lt_of_lt_of_le nf1 (D8 (by omega))) (by omega),_,rfl,rfl,?_⟩⟩
     rw[eTp]
     show Q (.bl (decide (V.int (F*A1 (G-v.fin lv.L))=V.int (upL v sg lv)))) H14
     rw[ne,decide_eq_true rfl]
     exact k _ (s9.trans s11)
end
noncomputable abbrev D2f:Stmt:=(top 72)
noncomputable def Lv.tp:Lv ->Int
 | .rat t _ _=>t
 | .roo t _=>t
noncomputable def Lv.wt:Lv ->Int ->Lv
 | .rat _ b n,t=> .rat t b n
 | .roo _ n,t=> .roo t n
theorem Lv.Xv.wt{lv:Lv}(h:lv.Xv){t:Int}(h0:1<=t)(h1:t<A1 28):(lv.wt t).Xv:=by
 cases lv with
 |rat a b n=>exact⟨⟨h0,h1⟩,h.2⟩
 |roo a n=>exact⟨⟨h0,h1⟩,h.2⟩
theorem Lv.wt_le{lv:Lv}{t:Int}(h:lv.tp<=t):lv.Le (lv.wt t):=by
 cases lv with
 |rat a b n=>exact⟨h,rfl,rfl⟩
 |roo a n=>exact⟨h,rfl⟩
theorem Z6a(lv:Lv)(t:Int):B2c lv.ex none (some 1)++ [V.int t]++B2c lv.ex (some 2) none=(lv.wt t).ex/\B2c lv.ex none (some 1)≠ []/\B2c lv.ex none (some 1)++ [V.int t]≠ []/\(B2c lv.ex none (some 1)).length=1/\B2c lv.ex (some 2) none≠ []/\(B2c lv.ex (some 2) none).length=2:=by
 cases lv with
 |rat a b n=>exact⟨rfl,List.cons_ne_nil _ _,List.cons_ne_nil _ _,rfl,List.cons_ne_nil _ _,rfl⟩
 |roo a n=>exact⟨rfl,List.cons_ne_nil _ _,List.cons_ne_nil _ _,rfl,List.cons_ne_nil _ _,rfl⟩
theorem U6y(lv:Lv):lv.ex.length=4:=by cases lv<;>rfl
section
variable{P:Program}{w:World}{K:Frag}{mg:Str ->Option Value}{base:Heap}
noncomputable def J6k (K:Frag):Sp:=fun vs H Q _=>∃a ns,vs=[.ref a]/\(ns:List Int).length<=63/\SqL K H a (ns.map V.int)/\∀H',Q (.bl true) H'
theorem scLaw:FnScope ["_law_script","_law_parts","_law_k","_law_cell","_law_sign","_law_top_here","_law_bottom","_law_power","_law_exact","_law_found","_law_flags","_law_number","_law_more"] ["_law_script"] (A2 D2f):=scK
theorem Z0v{f f1 f2 f3 f4 f5 f6 f7 f8 CN:Addr}(D:Def K mg "law" ["_law_script"] D2f f fd)
   (dA:Def K mg "_law_cell_at" ["_law_script","_law_k"] C2e f1 fd1) (dB:FnOk P w K mg base (CX1 P w) 1 f1 fd1 ["_law_script","_law_k"] (U9t K)) (dC:Def K mg "_law_mixed" ["_law_cell","_law_k"] A8d f2 fd2) (dD:FnOk P w K mg base (CX1 P w) 1 f2 fd2 ["_law_cell","_law_k"] D2n)
   (dG:Def K mg "_law_drawn_context" ["_law_cell"] B2y f3 fd3) (dH:FnOk P w K mg base (CX1 P w) 2 f3 fd3 ["_law_cell"] J6h) (dJ:Def K mg "_law_value" ["_law_cell","_law_parts"] A4t f4 fd4) (dL:FnOk P w K mg base (CX1 P w) 3 f4 fd4 ["_law_cell","_law_parts"] G3p)
   (dE:Def K mg "_law_told" ["_law_parts","_law_exact","_law_sign","_law_ideal"] A1z f5 fd5) (dF:FnOk P w K mg base (CX1 P w) 8 f5 fd5 ["_law_parts","_law_exact","_law_sign","_law_ideal"] (C9t CN)) (dM:Def K mg "_law_right" ["_law_parts","_law_exact","_law_sign","_law_found","_law_flags"] A0b f6 fd6) (dN:FnOk P w K mg base (CX1 P w) 5 f6 fd6 ["_law_parts","_law_exact","_law_sign","_law_found","_law_flags"] C1v)
   (dP:Def K mg "_law_again" ["_law_parts","_law_found","_law_number"] A4z f7 fd7) (dQ:FnOk P w K mg base (CX1 P w) 9 f7 fd7 ["_law_parts","_law_found","_law_number"] (G1y CN)) (dS:Def K mg "_law_worth_less" ["_law_one","_law_other"] A5f f8 fd8) (dU:FnOk P w K mg base (CX1 P w) 2 f8 fd8 ["_law_one","_law_other"] G2n)
   (O:Own mg):FnOk P w K mg base (CX1 P w) 10 f fd ["_law_script"] (J6k K):=by
 refine D.F.okE scLaw (fun vs H Q E h=>?_) (fun X cdv A outer s H vs Q E hX hr hx h=>?_)
 . obtain⟨a,ns,rfl,_⟩:=h
   rfl
 . subst hX
   obtain⟨sc,ns,rfl,n63,hS,kk⟩:=h
   refine⟨_,(A4 (B7 (C5 (i:=1) scLaw.nd rfl (Or.inl rfl) (C8 dG dH hr hx (A0 (C8 dC dD hr hx (A0 (C8 dA dB hr hx (A0 (pv 0) (A0 A3 A5))) (A0 A3 A5))) A5))))
     (A4 (B7 (D2s PassesOwn.leaving rfl (J9b rfl O.range_ (A0 A3 A5)) (J5 (i:=2) scLaw.nd rfl (Or.inl rfl)) (A4 (B7 (C5 (i:=3) scLaw.nd rfl (Or.inl rfl) (C8 dC dD hr hx (A0 (C8 dA dB hr hx (A0 (pv 0) (A0 (A7 D9 A3 (pv 2)) A5))) (A0 (A7 D9 A3 (pv 2)) A5)))))
     (A4 (B7 (C5 (i:=4) scLaw.nd rfl (Or.inl rfl) (A7 J1 (pv 3) A3)))
     (A4 (B7 (C1h (C8 dJ dL hr hx (A0 (A7 D5 (pv 3) A3) (A0 (pv 1) A5))) (C1s rfl (J9 (J5 (i:=5) scLaw.nd rfl (Or.inl rfl)) (J9 (J5 (i:=6) scLaw.nd rfl (Or.inl rfl)) (J9 (J5 (i:=7) scLaw.nd rfl (Or.inl rfl)) B4s))))))
     (A4 (B7 (C5 (i:=8) scLaw.nd rfl (Or.inl rfl) (Y1 (A0 B9 (A0 (pv 5) (A0 (pv 6) (A0 (pv 7) A5)))))))
     (A4 (B7 (G6 (C4 G4 (A7 J1 (A7 D5 (pv 3) A3) A3) A3 (B5 _)) (A6 (B7 (C5 (i:=8) scLaw.nd rfl (Or.inl rfl) (Y1 (A0 B9 (A0 (pv 5) (A0 A3 (A0 (A7 D9 (A7 D9 (A7 D6 A3 (pv 7)) (J2 U9 (by rfl) O.len_ PySem.boot_len (A0 (J8 U3 (by rfl) O.str_ boot_str (A0 (pv 5) A5)) A5))) (A7 J1 (A7 D5 (pv 3) A3) A3)) A5)))))))) C6))
     (A4 (B7 (C1h (C8 dE dF hr hx (A0 (pv 1) (A0 (pv 8) (A0 (pv 4) (A0 (pv 7) A5))))) (C1s rfl (J9 (J5 (i:=9) scLaw.nd rfl (Or.inl rfl)) (J9 (J5 (i:=10) scLaw.nd rfl (Or.inl rfl)) (J9 (J5 (i:=11) scLaw.nd rfl (Or.inl rfl)) B4s))))))
     (A4 (B7 (G6 (PW.pt (B9n (A2b (V3 (C8 dM dN hr hx (A0 (pv 1) (A0 (pv 8) (A0 (pv 4) (A0 (pv 9) (A0 (pv 10) A5)))))))) (B5r (A2b (V3 (C8 dP dQ hr hx (A0 (pv 1) (A0 (pv 9) (A0 (pv 11) A5))))))))) (A6 (B3 A1h)) C6))
     (A4 (B7 (C5 (i:=12) scLaw.nd rfl (Or.inl rfl) (A7 J6c (A7 J6c (G1w U7m (pv 8) J7n (J7b A3)) (Y1 (A0 (A7 D9 (A7 D9 (pv 5) A3) (A7 J1 (A7 D5 (pv 3) A3) A3)) A5))) (G1w U7m (pv 8) (J7b A3) J7n))))
     (A6 (B7 (G6 (V3 (C8 dS dU hr hx (A0 (pv 9) (A0 (G7 G2 (C8 dE dF hr hx (A0 (pv 1) (A0 (pv 12) (A0 (pv 4) (A0 (pv 7) A5))))) A3 (fun _ _=>rfl)) A5)))) (A6 (B3 A1h)) C6)))))))))))))
     (A6 (B3 A1h)))),?_⟩
   refine⟨fun σ' H'=>∃t v,Same H H'/\H' t=some (.tup (Cv.vs v))/\v.Ok/\σ'=[some (.ref sc),some (.ref t),none,none,none,none,none,none,none,none,none,none,none],?_,?_⟩
   . exact⟨_,rfl,sc,ns,0,rfl,hS,by decide,fun c0=>⟨c0,1,rfl,by decide,by decide,fun m m0 m1=>⟨m,rfl,m0,fun t r y l mo H' r1 r2 l1 l2 m1 m2 s' e=>⟨t,⟨r,y,l,mo⟩,s',e,⟨r1,r2,l1,l2,m1,m2⟩,rfl⟩⟩⟩⟩
   rintro σ' H1 ⟨t,v,s1,et,ok,rfl⟩
   refine⟨fun σ' H'=>True,?_,fun σ' H' _=>kk _⟩
   refine⟨4,rfl,by decide,by decide,?_⟩
   refine J8v (fun i σ' H'=>∃z2 z3 z4 z5 z6 z7 z8 z9 z10 z11 z12,Same H1 H'/\σ'=[some (.ref sc),some (.ref t),z2,z3,z4,z5,z6,z7,z8,z9,z10,z11,z12]) ⟨_,_,_,_,_,_,_,_,_,_,_,Same.refl _,rfl⟩ ?_ (fun _ _ _=>trivial)
   rintro i σ' H2 hi ⟨z2,z3,z4,z5,z6,z7,z8,z9,z10,z11,z12,s2,rfl⟩
   have et2:=s2 _ _ et
   have hS2:=(s1.trans s2).seq hS
   refine⟨fun σ' H'=>∃k c:Int,H'=H2/\0<=c/\σ'=[some (.ref sc),some (.ref t),some (.int k),some (.int c),z4,z5,z6,z7,z8,z9,z10,z11,z12],?_,?_⟩
   . exact⟨_,rfl,_,rfl,_,_,rfl,rfl,sc,ns,_,rfl,hS2,by omega,fun c1=>⟨_,rfl,_,_,rfl,rfl,c1,_,rfl,by omega,by omega,fun m m0 m1=>⟨_,m,rfl,m0,rfl⟩⟩⟩
   rintro σ' H3 ⟨kx,c,rfl,c0,rfl⟩
   refine⟨fun σ' H'=>∃sg:Int,H'=H3/\0<=sg/\sg<=1/\σ'=[some (.ref sc),some (.ref t),some (.int kx),some (.int c),some (.int sg),z5,z6,z7,z8,z9,z10,z11,z12],?_,?_⟩
   . exact⟨_,rfl,_,_,rfl,rfl,(by decide:(0:Int)<2),_,rfl,by omega,by omega,rfl⟩
   rintro σ' H4 ⟨sg,rfl,sg0,sg1,rfl⟩
   refine⟨fun σ' H'=>∃tp b g:Int,Same H4 H'/\1<=tp/\tp<A1 27/\1<=b/\b<=1000000000/\ -80<=g/\g<=80/\σ'=[some (.ref sc),some (.ref t),some (.int kx),some (.int c),some (.int sg),some (.int tp),some (.int b),some (.int (g-G8 tp+G8 b)),z8,z9,z10,z11,z12],?_,?_⟩
   . exact⟨_,rfl,_,_,rfl,rfl,dv (n:=8) (by decide) (by decide+kernel),_,rfl,_,t,v,rfl,et2,ok,fun tp b g q H' t1 t2 b1 b2 g0 g1 s' e=>⟨q,_,rfl,SqT.of e,rfl,_,_,rfl,_,_,rfl,_,_,rfl,rfl,tp,b,g,s',t1,t2,b1,b2,g0,g1,rfl⟩⟩
   rintro σ' H5 ⟨tp,b,g,s5,t1,t2,b1,b2,g0,g1,rfl⟩
   have ft:=C1y t1 t2 (by decide)
   have fb:=C1y b1 (b9 b2) (by decide)
   have t28:A1 27+3<A1 28:=by decide+kernel
   have z4':4<=sizeLine:=C7 (by decide)
   generalize hpw:g-G8 tp+G8 b=pw
   refine⟨fun σ' H'=>∃e,Same H4 H'/\H' e=some (.tup (Lv.ex (.rat tp b pw)))/\σ'=[some (.ref sc),some (.ref t),some (.int kx),some (.int c),some (.int sg),some (.int tp),some (.int b),some (.int pw),some (.ref e),z9,z10,z11,z12],?_,?_⟩
   . exact⟨_,rfl,_,rfl,_,rfl,z4',fun e ne=>⟨e,s5.trans (Same.upd ne),A8,rfl⟩⟩
   rintro σ' H6 ⟨e,s6,ee,rfl⟩
   refine⟨fun σ' H'=>∃e lv,Same H4 H'/\H' e=some (.tup (Lv.ex lv))/\lv.Xv/\lv.tp=tp/\σ'=[some (.ref sc),some (.ref t),some (.int kx),some (.int c),some (.int sg),some (.int tp),some (.int b),some (.int pw),some (.ref e),z9,z10,z11,z12],?_,?_⟩
   . refine⟨_,rfl,_,_,rfl,rfl,dv (n:=2) (by decide) (by decide+kernel),_,_,rfl,rfl,(by decide:(0:Int)<3),rfl,_,rfl,V0 (fun _=>?_) (fun _=>⟨e,_,s6,ee,⟨⟨t1,by omega⟩,⟨b1,b9 b2⟩,by omega,by omega⟩,rfl,rfl⟩)⟩
     refine⟨_,?_,fun _ _ h=>h⟩
     have lt:tp.natAbs.log2<1920:=(szT t1 (Int.lt_of_lt_of_le t2 (D8 (by decide)))).log
     have e0:=Int.emod_nonneg (c/6) (show(2:Int)≠0 by decide)
     have e1:=Int.emod_lt_of_pos (c/6) (show(0:Int)<2 by decide)
     exact⟨_,rfl,_,rfl,_,_,rfl,rfl,CMul.ok (.inl ⟨by decide,by decide⟩),_,rfl,_,rfl,lt,_,rfl,int_text_fits lt,_,_,rfl,rfl,_,rfl,_,_,rfl,rfl,dv (n:=6) (by decide) (by decide+kernel),_,_,rfl,rfl,(by decide:(0:Int)<2),_,_,rfl,rfl,z4',fun e' ne'=>⟨e',.roo tp (2*pw+G8 tp+c/6 % 2),s6.trans (Same.upd ne'),A8,⟨⟨t1,by omega⟩,by omega,by omega⟩,rfl,rfl⟩⟩
   clear ee s6 e s5
   rintro σ' H7 ⟨e,lv,s7,ee,xv,etp,rfl⟩
   have et7:=s7 _ _ et2
   refine⟨fun σ' H'=>∃tt l n,Same H7 H'/\H' tt=some (.tup (setL v sg lv pw).1.vs)/\H' l=some (.lst ((A1d (setL v sg lv pw).2).map V.str))/\NumIs CN H' n (setL v sg lv pw).1/\σ'=[some (.ref sc),some (.ref t),some (.int kx),some (.int c),some (.int sg),some (.int tp),some (.int b),some (.int pw),some (.ref e),some (.ref tt),some (.ref l),some (.ref n),z12],?_,?_⟩
   . exact⟨_,rfl,_,rfl,_,rfl,_,rfl,t,e,v,sg,lv,pw,rfl,et7,ok,ee,xv,sg0,sg1,fun r tt l n H' s' er ett el num=>⟨r,_,rfl,SqT.of er,rfl,_,_,rfl,_,_,rfl,_,_,rfl,rfl,tt,l,n,s',ett,el,num,rfl⟩⟩
   rintro σ' H8 ⟨tt,l,n,s8,ett,el,num,rfl⟩
   have S:=xv.set (v:=v) ok sg0 sg1
   refine⟨fun σ' H'=>Same H8 H'/\σ'=[some (.ref sc),some (.ref t),some (.int kx),some (.int c),some (.int sg),some (.int tp),some (.int b),some (.int pw),some (.ref e),some (.ref tt),some (.ref l),some (.ref n),z12],?_,?_⟩
   . refine⟨_,rfl,_,rfl,_,rfl,_,rfl,_,rfl,t,e,tt,l,v,sg,lv,pw,rfl,s8 _ _ et7,ok,s8 _ _ ee,xv,sg0,sg1,ett,el,fun H9 s9=>⟨_,rfl,J4 ?_⟩⟩
     exact⟨_,rfl,_,rfl,_,rfl,t,tt,n,v,_,rfl,s9 _ _ (s8 _ _ et7),ok,S.std pw,s9 _ _ ett,num.same s9,fun H10 s10=>⟨_,rfl,J4 ⟨s9.trans s10,rfl⟩⟩⟩
   rintro σ' H9 ⟨s9,rfl⟩
   obtain⟨x1,x2,x3,x4,x5,x6⟩:=Z6a lv (tp+1+c/64 % 3)
   have d0:=Int.emod_nonneg (c/64) (show(3:Int)≠0 by decide)
   have d1:=Int.emod_lt_of_pos (c/64) (show(0:Int)<3 by decide)
   have ee9:=s9 _ _ (s8 _ _ ee)
   refine⟨fun σ' H'=>∃e',Same H9 H'/\H' e'=some (.tup (lv.wt (tp+1+c/64 % 3)).ex)/\σ'=[some (.ref sc),some (.ref t),some (.int kx),some (.int c),some (.int sg),some (.int tp),some (.int b),some (.int pw),some (.ref e),some (.ref tt),some (.ref l),some (.ref n),some (.ref e')],?_,?_⟩
   . refine⟨_,rfl,_,rfl,e,_,rfl,SqT.of ee9,?_,fun p1 np1=>?_⟩
     . rw[U6y]
       decide
     refine⟨_,rfl,_,_,rfl,rfl,_,rfl,_,_,rfl,rfl,dv (n:=64) (by decide) (by decide+kernel),_,_,rfl,rfl,(by decide:(0:Int)<3),_,_,rfl,rfl,C7 (show 1<=1000 by decide),fun p2 np2=>?_⟩
     have u1:=Same.upd (o:= .tup (B2c lv.ex none (some 1))) np1
     have u2:=Same.upd (o:= .tup [.int (tp+1+c/64 % 3)]) np2
     refine⟨p1,p2,_,_,rfl,rfl,SqT.of (u2 _ _ A8),SqT.of A8,x2,C7 (by rw[x4];show 1+1<=1000;decide),fun z=>absurd z (List.cons_ne_nil _ _),fun _ p3 np3=>?_⟩
     have u3:=Same.upd (o:= .tup (B2c lv.ex none (some 1)++ [.int (tp+1+c/64 % 3)])) np3
     refine⟨_,rfl,_,rfl,e,_,rfl,SqT.of ((u1.trans (u2.trans u3)) _ _ ee9),?_,fun p4 np4=>?_⟩
     . rw[U6y]
       decide
     have u4:=Same.upd (o:= .tup (B2c lv.ex (some 2) none)) np4
     refine⟨p3,p4,_,_,rfl,rfl,SqT.of (u4 _ _ A8),SqT.of A8,x3,C7 (by rw[List.length_append,x4,x6];show 1+1+2<=1000;decide),fun z=>absurd z x5,fun _ p5 np5=>?_⟩
     have u5:=Same.upd (o:= .tup (B2c lv.ex none (some 1)++ [.int (tp+1+c/64 % 3)]++B2c lv.ex (some 2) none)) np5
     refine⟨p5,u1.trans (u2.trans (u3.trans (u4.trans u5))),?_,rfl⟩
     rw[A8,x1]
   rintro σ' H10 ⟨e',s10,ee',rfl⟩
   have xv':=xv.wt (t:=tp+1+c/64 % 3) (by omega) (by omega)
   have S':=xv'.set (v:=v) ok sg0 sg1
   have wl:=Z6x (i:=pw) S S' (Lv.wt_le (by omega))
   refine⟨_,?_,fun _ _ h=>h⟩
   refine⟨_,rfl,_,rfl,_,rfl,_,rfl,_,rfl,t,e',v,sg,_,pw,rfl,s10 _ _ (s9 _ _ (s8 _ _ et7)),ok,ee',xv',sg0,sg1,fun r tt' l' n' H11 s11 er' ett' el' num'=>⟨r,_,_,_,rfl,rfl,SqT.of er',C0 (j:=0) rfl,tt,tt',v,_,_,rfl,s11 _ _ (s10 _ _ (s9 _ _ ett)),ett',ok,S.std pw,S'.std pw,?_⟩⟩
   rw[wl]
   exact⟨_,rfl,J4 ⟨_,_,_,_,_,_,_,_,_,_,_,s2.trans (s7.trans (s8.trans (s9.trans (s10.trans s11)))),rfl⟩⟩
end
end TR
namespace TR
open PySem L2 PySem.W PyProof.Rows
theorem all_mk{l:OpenLaw}{w:World}{K:Frag}{h:Heap}{mg:Str ->Option Value}{fa CW W0 A4j W1 A4f W2 A4m W3 A4p W4 A4q W5 A4n W6 A4g W7 A4h CN D1p Z5 A0x Z7 A0u Z4 A0w Z9 A1a Z3 A0r Z8 A0v Z6 A0s Z2 A0z CC D1q V0p A2t A0y B0t A0t CQ D1a V3m A0m B1z CE C1 C2 C3 CR fX aS RO D1f V7b A0k B1r A9d D8g C2r D4w D4s V5f J0s J2g D5b Y1z B6f A4k C5u B8z A9r C3h C5g G1c D6n B7d B6e C5q B9b D9c B7j D6s D5f J2s D9w C3s D4k C4t J1r C2z J5h C2h B4f D3t C4p D9b C4m G1m C3j C3n Y2p:Addr}(X:K.In h)(G:h.Ns mainGlobals mg)(hfa:mg "law"=some (.ref fa))
   {D9p D8s:Option Addr} {D9n:Array (Option Value)} {D8z D7g D8w D8v B5d D6k:Value}
   (A8m:nsIn K mainGlobals "product_of"=some (some (.ref A9d))) (B1b:K.lookup A9d=some ⟨D8z,D9p,.func (fnOf "product_of" "product_of" (B0 Y6) (A9 Y6) (A2 Y6) .none D7g D8w D8v D8s B5d D6k),D9n⟩) (B0n:codeIn K B5d "product_of"=true) (B0z:keepIn K (.ref A9d)=true)
   {V8t Y0u:Option Addr} {Y1s:Array (Option Value)} {V5w V8z V9m V4k G4a Y2u:Value}
   (D6q:nsIn K mainGlobals "ten_to"=some (some (.ref D8g))) (G0y:K.lookup D8g=some ⟨V5w,V8t,.func (fnOf "ten_to" "ten_to" (B0 A0d) (A9 A0d) (A2 A0d) .none V8z V9m V4k Y0u G4a Y2u),Y1s⟩) (D9e:codeIn K G4a "ten_to"=true) (G0f:keepIn K (.ref D8g)=true)
   {U3p U2h:Option Addr} {U4v:Array (Option Value)} {U2x U1a U0y U4u D1g U3b:Value}
   (C2w:nsIn K mainGlobals "part_of"=some (some (.ref C2r))) (C4w:K.lookup C2r=some ⟨U2x,U3p,.func (fnOf "part_of" "part_of" (B0 A3e) (A9 A3e) (A2 A3e) .none U1a U0y U4u U2h D1g U3b),U4v⟩) (C4e:codeIn K D1g "part_of"=true) (C2j:keepIn K (.ref C2r)=true)
   {V9y V4t:Option Addr} {Y1n:Array (Option Value)} {V8v Y1y V2y V1w G3u Y0x:Value}
   (D5q:nsIn K mainGlobals "whole_lead"=some (some (.ref D4w))) (D3w:K.lookup D4w=some ⟨V8v,V9y,.func (fnOf "whole_lead" "whole_lead" (B0 A3v) (A9 A3v) (A2 A3v) .none Y1y V2y V1w V4t G3u Y0x),Y1n⟩) (D5c:codeIn K G3u "whole_lead"=true) (D8u:keepIn K (.ref D4w)=true)
   {Y3a V0v:Option Addr} {V2d:Array (Option Value)} {V7d V3s Y0n V2g G5n V4s:Value}
   (D6z:nsIn K mainGlobals "whole_root"=some (some (.ref D4s))) (D7y:K.lookup D4s=some ⟨V7d,Y3a,.func (fnOf "whole_root" "whole_root" (B0 A7y) (A9 A7y) (A2 A7y) .none V3s Y0n V2g V0v G5n V4s),V2d⟩) (D3g:codeIn K G5n "whole_root"=true) (D4g:keepIn K (.ref D4s)=true)
   {Z3b Z2w:Option Addr} {Z1v:Array (Option Value)} {Z2b Z2q Z1x Z3s V1v Z2n:Value}
   (V1f:nsIn K mainGlobals "end"=some (some (.ref V5f))) (Y2x:K.lookup V5f=some ⟨Z2b,Z3b,.func (fnOf "end" "end" (B0 G7r) (A9 G7r) (A2 G7r) .none Z2q Z1x Z3s Z2w V1v Z2n),Z1v⟩) (V1m:codeIn K V1v "end"=true) (Y0w:keepIn K (.ref V5f)=true)
   {Y7q Y7k:Option Addr} {Y6s:Array (Option Value)} {Y6y Y7h Y8g Y8e J7y Y8c:Value}
   (J3q:nsIn K mainGlobals "told"=some (some (.ref J0s))) (J3d:K.lookup J0s=some ⟨Y6y,Y7q,.func (fnOf "told" "told" (B0 B9j) (A9 B9j) (A2 B9j) .none Y7h Y8g Y8e Y7k J7y Y8c),Y6s⟩) (J5b:codeIn K J7y "told"=true) (J1q:keepIn K (.ref J0s)=true)
   {Y7s Y6v:Option Addr} {Y7p:Array (Option Value)} {Y6z Y6w Y7w Y7g J8d Y6n:Value}
   (J0n:nsIn K mainGlobals "lead_of"=some (some (.ref J2g))) (J2p:K.lookup J2g=some ⟨Y6z,Y7s,.func (fnOf "lead_of" "lead_of" (B0 C1n) (A9 C1n) (A2 C1n) .none Y6w Y7w Y7g Y6v J8d Y6n),Y7p⟩) (J3u:codeIn K J8d "lead_of"=true) (J2f:keepIn K (.ref J2g)=true)
   {V5c Y1b:Option Addr} {Y2j:Array (Option Value)} {V9g V5x V5p Y3m G3t V3z:Value}
   (D8y:nsIn K mainGlobals "need_number"=some (some (.ref D5b))) (D5k:K.lookup D5b=some ⟨V9g,V5c,.func (fnOf "need_number" "need_number" (B0 A8f) (A9 A8f) (A2 A8f) .none V5x V5p Y3m Y1b G3t V3z),Y2j⟩) (D8r:codeIn K G3t "need_number"=true) (G0z:keepIn K (.ref D5b)=true)
   {Z2s Z1w:Option Addr} {Z2r:Array (Option Value)} {Z2p Z2g Z2f Z3y V7f Z3k:Value}
   (V2c:nsIn K mainGlobals "is_between"=some (some (.ref Y1z))) (V9p:K.lookup Y1z=some ⟨Z2p,Z2s,.func (fnOf "is_between" "is_between" (B0 D2p) (A9 D2p) (A2 D2p) .none Z2g Z2f Z3y Z1w V7f Z3k),Z2r⟩) (Y0r:codeIn K V7f "is_between"=true) (Y0h:keepIn K (.ref Y1z)=true)
   {J1d J1u:Option Addr} {J2h:Array (Option Value)} {J0k J0d J3y J4d C2x J4t:Value}
   (B6u:nsIn K mainGlobals "need_between"=some (some (.ref B6f))) (B7z:K.lookup B6f=some ⟨J0k,J1d,.func (fnOf "need_between" "need_between" (B0 A2g) (A9 A2g) (A2 A2g) .none J0d J3y J4d J1u C2x J4t),J2h⟩) (B8v:codeIn K C2x "need_between"=true) (B7q:keepIn K (.ref B6f)=true)
   {J5g J1k:Option Addr} {J3h:Array (Option Value)} {G9m J1m J4b J1x C3x G9s:Value}
   (B6v:nsIn K mainGlobals "settled"=some (some (.ref A4k))) (B6t:K.lookup A4k=some ⟨G9m,J5g,.func (fnOf "settled" "settled" (B0 A0p) (A9 A0p) (A2 A0p) .none J1m J4b J1x J1k C3x G9s),J3h⟩) (B8a:codeIn K C3x "settled"=true) (B9c:keepIn K (.ref A4k)=true)
   {U4j U5s:Option Addr} {U3t:Array (Option Value)} {U2g U4q U6a U2d D1s U5t:Value}
   (C2v:nsIn K mainGlobals "finest_power"=some (some (.ref C5u))) (C5t:K.lookup C5u=some ⟨U2g,U4j,.func (fnOf "finest_power" "finest_power" (B0 A3a) (A9 A3a) (A2 A3a) .none U4q U6a U2d U5s D1s U5t),U3t⟩) (C5w:codeIn K D1s "finest_power"=true) (C4y:keepIn K (.ref C5u)=true)
   {J1y J0z:Option Addr} {J4e:Array (Option Value)} {J1f J2e J3x J0y C2u J1c:Value}
   (B7y:nsIn K mainGlobals "nearest_to"=some (some (.ref B8z))) (B6n:K.lookup B8z=some ⟨J1f,J1y,.func (fnOf "nearest_to" "nearest_to" (B0 A0q) (A9 A0q) (A2 A0q) .none J2e J3x J0y J0z C2u J1c),J4e⟩) (B7k:codeIn K C2u "nearest_to"=true) (B7s:keepIn K (.ref B8z)=true)
   {D4b D9a:Option Addr} {D3x:Array (Option Value)} {G1a D5s D5j D3m B4y D4x:Value}
   (B1e:nsIn K mainGlobals "neighbour"=some (some (.ref A9r))) (A8q:K.lookup A9r=some ⟨G1a,D4b,.func (fnOf "neighbour" "neighbour" (B0 V4) (A9 V4) (A2 V4) .none D5s D5j D3m D9a B4y D4x),D3x⟩) (A9s:codeIn K B4y "neighbour"=true) (A9c:keepIn K (.ref A9r)=true)
   {U2n U2a:Option Addr} {U5j:Array (Option Value)} {U5h U5e U3e U2u D1t U1p:Value}
   (C5k:nsIn K mainGlobals "within_room"=some (some (.ref C3h))) (C3t:K.lookup C3h=some ⟨U5h,U2n,.func (fnOf "within_room" "within_room" (B0 A2v) (A9 A2v) (A2 A2v) .none U5e U3e U2u U2a D1t U1p),U5j⟩) (C5d:codeIn K D1t "within_room"=true) (C5p:keepIn K (.ref C3h)=true)
   {U2q U4x:Option Addr} {U5f:Array (Option Value)} {U3v U5b U2f U3u D1k U2y:Value}
   (C4b:nsIn K mainGlobals "is_beyond"=some (some (.ref C5g))) (C6a:K.lookup C5g=some ⟨U3v,U2q,.func (fnOf "is_beyond" "is_beyond" (B0 A3f) (A9 A3f) (A2 A3f) .none U5b U2f U3u U4x D1k U2y),U5f⟩) (C4k:codeIn K D1k "is_beyond"=true) (C6c:keepIn K (.ref C5g)=true)
   {Y2g V0m:Option Addr} {Y2z:Array (Option Value)} {Y3b V5q Y2c V2h G5e V6p:Value}
   (D6r:nsIn K mainGlobals "burst"=some (some (.ref G1c))) (D4v:K.lookup G1c=some ⟨Y3b,Y2g,.func (fnOf "burst" "burst" (B0 A8g) (A9 A8g) (A2 A8g) .none V5q Y2c V2h V0m G5e V6p),Y2z⟩) (D4z:codeIn K G5e "burst"=true) (G1k:keepIn K (.ref G1c)=true)
   {V0n V8k:Option Addr} {Y1t:Array (Option Value)} {Y0c V5d Y2r Y0j G5f Y1a:Value}
   (G1n:nsIn K mainGlobals "nines"=some (some (.ref D6n))) (D3h:K.lookup D6n=some ⟨Y0c,V0n,.func (fnOf "nines" "nines" (B0 A7w) (A9 A7w) (A2 A7w) .none V5d Y2r Y0j V8k G5f Y1a),Y1t⟩) (G0e:codeIn K G5f "nines"=true) (D9v:keepIn K (.ref D6n)=true)
   {G9e J4g:Option Addr} {J5z:Array (Option Value)} {J4z J5c J3a J3s C3q J2k:Value}
   (B6c:nsIn K mainGlobals "signals_of_rest"=some (some (.ref B7d))) (B6h:K.lookup B7d=some ⟨J4z,G9e,.func (fnOf "signals_of_rest" "signals_of_rest" (B0 A2h) (A9 A2h) (A2 A2h) .none J5c J3a J3s J4g C3q J2k),J5z⟩) (B7g:codeIn K C3q "signals_of_rest"=true) (B6p:keepIn K (.ref B7d)=true)
   {G9z J3w:Option Addr} {J4m:Array (Option Value)} {J0f J1t J2u J5y C6f J1p:Value}
   (B8k:nsIn K mainGlobals "signals_of_lead"=some (some (.ref B6e))) (B8j:K.lookup B6e=some ⟨J0f,G9z,.func (fnOf "signals_of_lead" "signals_of_lead" (B0 A2e) (A9 A2e) (A2 A2e) .none J1t J2u J5y J3w C6f J1p),J4m⟩) (B8y:codeIn K C6f "signals_of_lead"=true) (B8x:keepIn K (.ref B6e)=true)
   {U4y U3x:Option Addr} {U5n:Array (Option Value)} {U4d U5c U1k U4e D1c U4h:Value}
   (C3b:nsIn K mainGlobals "nought"=some (some (.ref C5q))) (C2t:K.lookup C5q=some ⟨U4d,U4y,.func (fnOf "nought" "nought" (B0 A3d) (A9 A3d) (A2 A3d) .none U5c U1k U4e U3x D1c U4h),U5n⟩) (C2k:codeIn K D1c "nought"=true) (C3p:keepIn K (.ref C5q)=true)
   {G8z J5s:Option Addr} {J2q:Array (Option Value)} {J0b J0w J0r J1h C3a G9f:Value}
   (B8m:nsIn K mainGlobals "rounded"=some (some (.ref B9b))) (B7x:K.lookup B9b=some ⟨J0b,G8z,.func (fnOf "rounded" "rounded" (B0 A2p) (A9 A2p) (A2 A2p) .none J0w J0r J1h J5s C3a G9f),J2q⟩) (B8q:codeIn K C3a "rounded"=true) (B7t:keepIn K (.ref B9b)=true)
   {Y2w V7x:Option Addr} {Y2e:Array (Option Value)} {V4y Y2s V2x V3w G5y V7u:Value}
   (G1g:nsIn K mainGlobals "way_of"=some (some (.ref D9c))) (D5y:K.lookup D9c=some ⟨V4y,Y2w,.func (fnOf "way_of" "way_of" (B0 A8c) (A9 A8c) (A2 A8c) .none Y2s V2x V3w V7x G5y V7u),Y2e⟩) (D3z:codeIn K G5y "way_of"=true) (G0q:keepIn K (.ref D9c)=true)
   {J1g J2v:Option Addr} {J3c:Array (Option Value)} {J0t J5r J1n J3n C4f J2c:Value}
   (B5z:nsIn K mainGlobals "bounded"=some (some (.ref B7j))) (B6m:K.lookup B7j=some ⟨J0t,J1g,.func (fnOf "bounded" "bounded" (B0 A2a) (A9 A2a) (A2 A2a) .none J5r J1n J3n J2v C4f J2c),J3c⟩) (B8p:codeIn K C4f "bounded"=true) (B7v:keepIn K (.ref B7j)=true)
   {V6h Y3w:Option Addr} {V4a:Array (Option Value)} {V0q Y3n V8m V0s G5u V6a:Value}
   (D7z:nsIn K mainGlobals "need_signals"=some (some (.ref D6s))) (D4u:K.lookup D6s=some ⟨V0q,V6h,.func (fnOf "need_signals" "need_signals" (B0 B3c) (A9 B3c) (A2 B3c) .none Y3n V8m V0s Y3w G5u V6a),V4a⟩) (D6y:codeIn K G5u "need_signals"=true) (D6h:keepIn K (.ref D6s)=true)
   {Y3h Y3j:Option Addr} {V2a:Array (Option Value)} {V4p V2v V8n V1a G3y V1g:Value}
   (G1b:nsIn K mainGlobals "in_order"=some (some (.ref D5f))) (D6b:K.lookup D5f=some ⟨V4p,Y3h,.func (fnOf "in_order" "in_order" (B0 B3a) (A9 B3a) (A2 B3a) .none V2v V8n V1a Y3j G3y V1g),V2a⟩) (G0k:codeIn K G3y "in_order"=true) (G0m:keepIn K (.ref D5f)=true)
   {Y8h Y7c:Option Addr} {Y7n:Array (Option Value)} {Y7b Y7f Y7d Y7z J8f Y7a:Value}
   (J4n:nsIn K mainGlobals "_law_cell_at"=some (some (.ref J2s))) (G9g:K.lookup J2s=some ⟨Y7b,Y8h,.func (fnOf "_law_cell_at" "_law_cell_at" (B0 C2e) (A9 C2e) (A2 C2e) .none Y7f Y7d Y7z Y7c J8f Y7a),Y7n⟩) (J0c:codeIn K J8f "_law_cell_at"=true) (G9t:keepIn K (.ref J2s)=true)
   {V7q V0r:Option Addr} {V3b:Array (Option Value)} {Y0b V0x V7c V3p G6f V8u:Value}
   (D6v:nsIn K mainGlobals "_law_mixed"=some (some (.ref D9w))) (D6m:K.lookup D9w=some ⟨Y0b,V7q,.func (fnOf "_law_mixed" "_law_mixed" (B0 A8d) (A9 A8d) (A2 A8d) .none V0x V7c V3p V0r G6f V8u),V3b⟩) (D8k:codeIn K G6f "_law_mixed"=true) (D8h:keepIn K (.ref D9w)=true)
   {U4n U2p:Option Addr} {U3r:Array (Option Value)} {U5w U6d U1r U3g D1e U1b:Value}
   (C4j:nsIn K mainGlobals "_law_names"=some (some (.ref C3s))) (C5y:K.lookup C3s=some ⟨U5w,U4n,.func (fnOf "_law_names" "_law_names" (B0 B2z) (A9 B2z) (A2 B2z) .none U6d U1r U3g U2p D1e U1b),U3r⟩) (C5r:codeIn K D1e "_law_names"=true) (C5s:keepIn K (.ref C3s)=true)
   {V2k V9s:Option Addr} {V1k:Array (Option Value)} {Y1x V4n V1b V1d G4v V4w:Value}
   (D9u:nsIn K mainGlobals "_law_goes_up"=some (some (.ref D4k))) (D9j:K.lookup D4k=some ⟨Y1x,V2k,.func (fnOf "_law_goes_up" "_law_goes_up" (B0 B2x) (A9 B2x) (A2 B2x) .none V4n V1b V1d V9s G4v V4w),V1k⟩) (D4h:codeIn K G4v "_law_goes_up"=true) (G1q:keepIn K (.ref D4k)=true)
   {U4g U2z:Option Addr} {U2b:Array (Option Value)} {U3n U5p U1y U3d D1u U3y:Value}
   (C4c:nsIn K mainGlobals "_law_to_end"=some (some (.ref C4t))) (C3r:K.lookup C4t=some ⟨U3n,U4g,.func (fnOf "_law_to_end" "_law_to_end" (B0 A5c) (A9 A5c) (A2 A5c) .none U5p U1y U3d U2z D1u U3y),U2b⟩) (C3k:codeIn K D1u "_law_to_end"=true) (C3f:keepIn K (.ref C4t)=true)
   {Y7t Y7u:Option Addr} {Y7e:Array (Option Value)} {Y8f Y6q Y8b Y6x J8a Y6p:Value}
   (J3e:nsIn K mainGlobals "_law_ten"=some (some (.ref J1r))) (J4r:K.lookup J1r=some ⟨Y8f,Y7t,.func (fnOf "_law_ten" "_law_ten" (B0 B2f) (A9 B2f) (A2 B2f) .none Y6q Y8b Y6x Y7u J8a Y6p),Y7e⟩) (J3b:codeIn K J8a "_law_ten"=true) (J2w:keepIn K (.ref J1r)=true)
   {U3k U2s:Option Addr} {U2e:Array (Option Value)} {U2w U6b U5v U4k D1r U1c:Value}
   (C4r:nsIn K mainGlobals "_law_drawn_context"=some (some (.ref C2z))) (C5h:K.lookup C2z=some ⟨U2w,U3k,.func (fnOf "_law_drawn_context" "_law_drawn_context" (B0 B2y) (A9 B2y) (A2 B2y) .none U6b U5v U4k U2s D1r U1c),U2e⟩) (C3z:codeIn K D1r "_law_drawn_context"=true) (C4x:keepIn K (.ref C2z)=true)
   {Y6u Y7r:Option Addr} {Y7x:Array (Option Value)} {Y7m Y8a Y7j Y7v J8h Y6t:Value}
   (J4q:nsIn K mainGlobals "_law_top"=some (some (.ref J5h))) (J0a:K.lookup J5h=some ⟨Y7m,Y6u,.func (fnOf "_law_top" "_law_top" (B0 C1b) (A9 C1b) (A2 C1b) .none Y8a Y7j Y7v Y7r J8h Y6t),Y7x⟩) (J5v:codeIn K J8h "_law_top"=true) (G9w:keepIn K (.ref J5h)=true)
   {U1n U2k:Option Addr} {U1v:Array (Option Value)} {U2r U4t U2j U3h D1h U6e:Value}
   (C3y:nsIn K mainGlobals "_law_value"=some (some (.ref C2h))) (C5v:K.lookup C2h=some ⟨U2r,U1n,.func (fnOf "_law_value" "_law_value" (B0 A4t) (A9 A4t) (A2 A4t) .none U4t U2j U3h U2k D1h U6e),U1v⟩) (C6b:codeIn K D1h "_law_value"=true) (C5j:keepIn K (.ref C2h)=true)
   {G4r G4j:Option Addr} {G6m:Array (Option Value)} {G6p G5r G4u G4f B9s G4n:Value}
   (B3h:nsIn K mainGlobals "_law_against"=some (some (.ref B4f))) (B3r:K.lookup B4f=some ⟨G6p,G4r,.func (fnOf "_law_against" "_law_against" (B0 V8) (A9 V8) (A2 V8) .none G5r G4u G4f G4j B9s G4n),G6m⟩) (B4g:codeIn K B9s "_law_against"=true) (B3p:keepIn K (.ref B4f)=true)
   {Y3t Y0e:Option Addr} {Y2m:Array (Option Value)} {V1u Y1r V3g V4r G5s V3c:Value}
   (G0b:nsIn K mainGlobals "_law_made"=some (some (.ref D3t))) (G1s:K.lookup D3t=some ⟨V1u,Y3t,.func (fnOf "_law_made" "_law_made" (B0 A2r) (A9 A2r) (A2 A2r) .none Y1r V3g V4r Y0e G5s V3c),Y2m⟩) (D4m:codeIn K G5s "_law_made"=true) (D7c:keepIn K (.ref D3t)=true)
   {U3s U4w:Option Addr} {U1s:Array (Option Value)} {U4z U5u U1m U5m D1j U1e:Value}
   (C2m:nsIn K mainGlobals "_law_leads"=some (some (.ref C4p))) (C6e:K.lookup C4p=some ⟨U4z,U3s,.func (fnOf "_law_leads" "_law_leads" (B0 A2x) (A9 A2x) (A2 A2x) .none U5u U1m U5m U4w D1j U1e),U1s⟩) (C4g:codeIn K D1j "_law_leads"=true) (C4z:keepIn K (.ref C4p)=true)
   {V9e Y0g:Option Addr} {V6f:Array (Option Value)} {V4z V5m Y0f Y3k G6q V9w:Value}
   (D7u:nsIn K mainGlobals "_law_near"=some (some (.ref D9b))) (D8m:K.lookup D9b=some ⟨V4z,V9e,.func (fnOf "_law_near" "_law_near" (B0 B2w) (A9 B2w) (A2 B2w) .none V5m Y0f Y3k Y0g G6q V9w),V6f⟩) (G0t:codeIn K G6q "_law_near"=true) (D4c:keepIn K (.ref D9b)=true)
   {U1h U5g:Option Addr} {U3j:Array (Option Value)} {U5a U4a U1x U3w D1n U4b:Value}
   (C2y:nsIn K mainGlobals "_law_right"=some (some (.ref C4m))) (C4q:K.lookup C4m=some ⟨U5a,U1h,.func (fnOf "_law_right" "_law_right" (B0 A0b) (A9 A0b) (A2 A0b) .none U4a U1x U3w U5g D1n U4b),U3j⟩) (C3w:codeIn K D1n "_law_right"=true) (C4d:keepIn K (.ref C4m)=true)
   {Y1h Y0y:Option Addr} {V8q:Array (Option Value)} {V3u V8j Y3f V5n G5w V6e:Value}
   (D9x:nsIn K mainGlobals "_law_told"=some (some (.ref G1m))) (D8n:K.lookup G1m=some ⟨V3u,Y1h,.func (fnOf "_law_told" "_law_told" (B0 A1z) (A9 A1z) (A2 A1z) .none V8j Y3f V5n Y0y G5w V6e),V8q⟩) (G1d:codeIn K G5w "_law_told"=true) (G0u:keepIn K (.ref G1m)=true)
   {U2c U2m:Option Addr} {U1g:Array (Option Value)} {U2v U4s U5q U4r D1m U4p:Value}
   (C6h:nsIn K mainGlobals "_law_again"=some (some (.ref C3j))) (C5x:K.lookup C3j=some ⟨U2v,U2c,.func (fnOf "_law_again" "_law_again" (B0 A4z) (A9 A4z) (A2 A4z) .none U4s U5q U4r U2m D1m U4p),U1g⟩) (C3u:codeIn K D1m "_law_again"=true) (C2s:keepIn K (.ref C3j)=true)
   {U2t U4f:Option Addr} {U4m:Array (Option Value)} {U1t U1w U3f U5x D1b U5r:Value}
   (C3m:nsIn K mainGlobals "_law_worth_less"=some (some (.ref C3n))) (C2n:K.lookup C3n=some ⟨U1t,U2t,.func (fnOf "_law_worth_less" "_law_worth_less" (B0 A5f) (A9 A5f) (A2 A5f) .none U1w U3f U5x U4f D1b U5r),U4m⟩) (C2q:codeIn K D1b "_law_worth_less"=true) (C4n:keepIn K (.ref C3n)=true)
   {Z1y V8w:Option Addr} {Z2c:Array (Option Value)} {Z2h V8r V1r V6m J5f V8f:Value}
   (J8j:nsIn K mainGlobals "law"=some (some (.ref Y2p))) (Y3d:K.lookup Y2p=some ⟨Z2h,Z1y,.func (fnOf "law" "law" (B0 D2f) (A9 D2f) (A2 D2f) .none V8r V1r V6m V8w J5f V8f),Z2c⟩) (V6w:codeIn K J5f "law"=true) (V1h:keepIn K (.ref Y2p)=true)
   (A7s:nsIn K mainGlobals "isinstance"=some none)
   (V8e:nsIn K mainGlobals "int"=some none)
   (J0j:nsIn K mainGlobals "bool"=some none)
   (V5u:nsIn K mainGlobals "str"=some none)
   (G9p:nsIn K mainGlobals "list"=some none)
   (D4a:nsIn K mainGlobals "tuple"=some none)
   (G9k:nsIn K mainGlobals "dict"=some none)
   (V4q:nsIn K mainGlobals "len"=some none)
   (D6u:nsIn K mainGlobals "range"=some none)
   (V0t:nsIn K mainGlobals "min"=some none)
   (V4m:nsIn K mainGlobals "max"=some none)
   (V3r:nsIn K mainGlobals "abs"=some none)
   (V4h:nsIn K mainGlobals "any"=some none)
   (Y2k:nsIn K mainGlobals "all"=some none)
   (V8d:nsIn K mainGlobals "sum"=some none)
   (G9y:nsIn K mainGlobals "repr"=some none)
   (B0h:nsIn K mainGlobals "enumerate"=some none)
   (B3f:nsIn K mainGlobals "reversed"=some none)
   (Y2q:nsIn K mainGlobals "zip"=some none)
   (C3v:nsIn K mainGlobals "sorted"=some none)
   (C6d:nsIn K mainGlobals "divmod"=some none)
   (V6q:nsIn K mainGlobals "set"=some none)
   (A6e:nsIn K mainGlobals "ValueError"=some none)
   (B3j:kitOne K (.type "int") (.type "int")=some true)
   (A9j:kitOne K (.type "int") (.type "bool")=some false)
   (B3u:kitOne K (.type "int") (.type "str")=some false)
   (B0u:kitOne K (.type "int") (.type "list")=some false)
   (A6b:kitOne K (.type "int") (.type "tuple")=some false)
   (A9x:kitOne K (.type "int") (.type "dict")=some false)
   (A9y:kitOne K (.type "bool") (.type "int")=some true)
   (A6m:kitOne K (.type "bool") (.type "bool")=some true)
   (A9z:kitOne K (.type "bool") (.type "str")=some false)
   (A7k:kitOne K (.type "bool") (.type "list")=some false)
   (A3w:kitOne K (.type "bool") (.type "tuple")=some false)
   (A7a:kitOne K (.type "bool") (.type "dict")=some false)
   (B3g:kitOne K (.type "str") (.type "int")=some false)
   (B0s:kitOne K (.type "str") (.type "bool")=some false)
   (B4h:kitOne K (.type "str") (.type "str")=some true)
   (B0d:kitOne K (.type "str") (.type "list")=some false)
   (A7h:kitOne K (.type "str") (.type "tuple")=some false)
   (B0q:kitOne K (.type "str") (.type "dict")=some false)
   (A9v:kitOne K (.type "list") (.type "int")=some false)
   (A5t:kitOne K (.type "list") (.type "bool")=some false)
   (B0b:kitOne K (.type "list") (.type "str")=some false)
   (A7c:kitOne K (.type "list") (.type "list")=some true)
   (A4a:kitOne K (.type "list") (.type "tuple")=some false)
   (A6k:kitOne K (.type "list") (.type "dict")=some false)
   (A7g:kitOne K (.type "tuple") (.type "int")=some false)
   (A3y:kitOne K (.type "tuple") (.type "bool")=some false)
   (A6v:kitOne K (.type "tuple") (.type "str")=some false)
   (A4b:kitOne K (.type "tuple") (.type "list")=some false)
   (A2s:kitOne K (.type "tuple") (.type "tuple")=some true)
   (A3z:kitOne K (.type "tuple") (.type "dict")=some false)
   (A8v:kitOne K (.type "dict") (.type "int")=some false)
   (A5w:kitOne K (.type "dict") (.type "bool")=some false)
   (A8p:kitOne K (.type "dict") (.type "str")=some false)
   (A7d:kitOne K (.type "dict") (.type "list")=some false)
   (A3x:kitOne K (.type "dict") (.type "tuple")=some false)
   (A5y:kitOne K (.type "dict") (.type "dict")=some true)
   (A1g:kitOne K (.type "NoneType") (.type "int")=some false)
   (A0h:kitOne K (.type "NoneType") (.type "bool")=some false)
   (A1f:kitOne K (.type "NoneType") (.type "str")=some false)
   (A0j:kitOne K (.type "NoneType") (.type "list")=some false)
   (Z1:kitOne K (.type "NoneType") (.type "tuple")=some false)
   (A0g:kitOne K (.type "NoneType") (.type "dict")=some false)
   (sn:specialIn K (.builtin "object.__class__") "__get__"=some (some (.builtin "getset_descriptor.__get__")))
   (tk:takesIn K (.builtin "object.__class__")=some true)
   (Z7z:nsIn K mainGlobals "Way"=some (some (.ref CW)))
   (Z3p:nsIn K mainGlobals "Down"=some (some (.ref W0)))
   (Y3p:plainGet K W0 Str.empty=true)
   (V2n:hasDictIn K W0=true)
   (V3x:plainOver K W0=true)
   (V1s:findIn K (.ref W0) "__setattr__"=some (some (.builtin "object.__setattr__")))
   (Y1e:makesIn K W0=true)
   (Y0t:keepIn K (.ref W0)=true)
   (V9r:findIn K (.ref W0) "__class__"=some (some (.builtin "object.__class__")))
   (V6y:mroIn K W0 (.type "object")=some true)
   (Y1f:findIn K (.ref W0) "__init__"=some (some (.builtin "object.__init__")))
   (V2q:kitOne K (.ref W0) (.ref CW)=some true)
   (B6d:findIn K (.ref W0) "name"=some (some (.ref A4j)))
   (B7e:isFn K (.ref A4j)=true)
   {G9h J3p:Option Addr} {J2x:Array (Option Value)} {J4h J4f J5n J1b C5z J4k:Value} (B6j:K.lookup A4j=some ⟨J4h,G9h,.func (fnOf "name" "Down.name" (B0 sN0) (A9 sN0) (A2 sN0) .none J4f J5n J1b J3p C5z J4k),J2x⟩)
   (B8f:codeIn K C5z "Down.name"=true)
   (B1w:keepIn K (.ref A4j)=true)
   (Z4k:nsIn K mainGlobals "Up"=some (some (.ref W1)))
   (V2j:plainGet K W1 Str.empty=true)
   (V4x:hasDictIn K W1=true)
   (Y3u:plainOver K W1=true)
   (V1z:findIn K (.ref W1) "__setattr__"=some (some (.builtin "object.__setattr__")))
   (V7e:makesIn K W1=true)
   (Y3g:keepIn K (.ref W1)=true)
   (V7t:findIn K (.ref W1) "__class__"=some (some (.builtin "object.__class__")))
   (Y2b:mroIn K W1 (.type "object")=some true)
   (Y2y:findIn K (.ref W1) "__init__"=some (some (.builtin "object.__init__")))
   (V2z:kitOne K (.ref W1) (.ref CW)=some true)
   (B6x:findIn K (.ref W1) "name"=some (some (.ref A4f)))
   (B6b:isFn K (.ref A4f)=true)
   {G9a G9c:Option Addr} {J2r:Array (Option Value)} {J1v J2j G9n J4u C2p J1z:Value} (B7h:K.lookup A4f=some ⟨J1v,G9a,.func (fnOf "name" "Up.name" (B0 sN1) (A9 sN1) (A2 sN1) .none J2j G9n J4u G9c C2p J1z),J2r⟩)
   (B8t:codeIn K C2p "Up.name"=true)
   (B1x:keepIn K (.ref A4f)=true)
   (Z4j:nsIn K mainGlobals "Floor"=some (some (.ref W2)))
   (V4j:plainGet K W2 Str.empty=true)
   (V7p:hasDictIn K W2=true)
   (V2u:plainOver K W2=true)
   (V2b:findIn K (.ref W2) "__setattr__"=some (some (.builtin "object.__setattr__")))
   (V9z:makesIn K W2=true)
   (V6v:keepIn K (.ref W2)=true)
   (V5j:findIn K (.ref W2) "__class__"=some (some (.builtin "object.__class__")))
   (V5s:mroIn K W2 (.type "object")=some true)
   (V9n:findIn K (.ref W2) "__init__"=some (some (.builtin "object.__init__")))
   (V2w:kitOne K (.ref W2) (.ref CW)=some true)
   (B7a:findIn K (.ref W2) "name"=some (some (.ref A4m)))
   (B8c:isFn K (.ref A4m)=true)
   {J2z J1j:Option Addr} {G9r:Array (Option Value)} {J2b G8x J0p J2a C5m J4w:Value} (B6r:K.lookup A4m=some ⟨J2b,J2z,.func (fnOf "name" "Floor.name" (B0 sN2) (A9 sN2) (A2 sN2) .none G8x J0p J2a J1j C5m J4w),G9r⟩)
   (B8g:codeIn K C5m "Floor.name"=true)
   (B1s:keepIn K (.ref A4m)=true)
   (Z2z:nsIn K mainGlobals "Ceiling"=some (some (.ref W3)))
   (V9x:plainGet K W3 Str.empty=true)
   (V6k:hasDictIn K W3=true)
   (V0k:plainOver K W3=true)
   (V2m:findIn K (.ref W3) "__setattr__"=some (some (.builtin "object.__setattr__")))
   (V7m:makesIn K W3=true)
   (Y0q:keepIn K (.ref W3)=true)
   (V0z:findIn K (.ref W3) "__class__"=some (some (.builtin "object.__class__")))
   (Y2n:mroIn K W3 (.type "object")=some true)
   (V1t:findIn K (.ref W3) "__init__"=some (some (.builtin "object.__init__")))
   (V9t:kitOne K (.ref W3) (.ref CW)=some true)
   (B8w:findIn K (.ref W3) "name"=some (some (.ref A4p)))
   (B6y:isFn K (.ref A4p)=true)
   {J2d J3r:Option Addr} {J1e:Array (Option Value)} {J3t J3f J3k J5a C5n J2y:Value} (B7f:K.lookup A4p=some ⟨J3t,J2d,.func (fnOf "name" "Ceiling.name" (B0 sN3) (A9 sN3) (A2 sN3) .none J3f J3k J5a J3r C5n J2y),J1e⟩)
   (B6s:codeIn K C5n "Ceiling.name"=true)
   (B1v:keepIn K (.ref A4p)=true)
   (Z4h:nsIn K mainGlobals "HalfUp"=some (some (.ref W4)))
   (V7z:plainGet K W4 Str.empty=true)
   (V8a:hasDictIn K W4=true)
   (Y0d:plainOver K W4=true)
   (Y2v:findIn K (.ref W4) "__setattr__"=some (some (.builtin "object.__setattr__")))
   (V7n:makesIn K W4=true)
   (V8s:keepIn K (.ref W4)=true)
   (Y0a:findIn K (.ref W4) "__class__"=some (some (.builtin "object.__class__")))
   (V6x:mroIn K W4 (.type "object")=some true)
   (V3a:findIn K (.ref W4) "__init__"=some (some (.builtin "object.__init__")))
   (V4v:kitOne K (.ref W4) (.ref CW)=some true)
   (B8r:findIn K (.ref W4) "name"=some (some (.ref A4q)))
   (B7w:isFn K (.ref A4q)=true)
   {J0h J5d:Option Addr} {J5j:Array (Option Value)} {J0e G9b J4a G9d C5a G8y:Value} (B7p:K.lookup A4q=some ⟨J0e,J0h,.func (fnOf "name" "HalfUp.name" (B0 sN4) (A9 sN4) (A2 sN4) .none G9b J4a G9d J5d C5a G8y),J5j⟩)
   (B6k:codeIn K C5a "HalfUp.name"=true)
   (B1t:keepIn K (.ref A4q)=true)
   (Z3f:nsIn K mainGlobals "HalfDown"=some (some (.ref W5)))
   (V9q:plainGet K W5 Str.empty=true)
   (Y3s:hasDictIn K W5=true)
   (V4g:plainOver K W5=true)
   (V1c:findIn K (.ref W5) "__setattr__"=some (some (.builtin "object.__setattr__")))
   (V1p:makesIn K W5=true)
   (V4u:keepIn K (.ref W5)=true)
   (V3e:findIn K (.ref W5) "__class__"=some (some (.builtin "object.__class__")))
   (V2e:mroIn K W5 (.type "object")=some true)
   (V4d:findIn K (.ref W5) "__init__"=some (some (.builtin "object.__init__")))
   (Y1p:kitOne K (.ref W5) (.ref CW)=some true)
   (B6a:findIn K (.ref W5) "name"=some (some (.ref A4n)))
   (B9d:isFn K (.ref A4n)=true)
   {J2m J3z:Option Addr} {J5u:Array (Option Value)} {J0u G9q J4p J1s C5b J3j:Value} (B6q:K.lookup A4n=some ⟨J0u,J2m,.func (fnOf "name" "HalfDown.name" (B0 sN5) (A9 sN5) (A2 sN5) .none G9q J4p J1s J3z C5b J3j),J5u⟩)
   (B7m:codeIn K C5b "HalfDown.name"=true)
   (B1y:keepIn K (.ref A4n)=true)
   (Z4f:nsIn K mainGlobals "HalfEven"=some (some (.ref W6)))
   (V9k:plainGet K W6 Str.empty=true)
   (V0h:hasDictIn K W6=true)
   (V8p:plainOver K W6=true)
   (Y0s:findIn K (.ref W6) "__setattr__"=some (some (.builtin "object.__setattr__")))
   (V2s:makesIn K W6=true)
   (V6r:keepIn K (.ref W6)=true)
   (V6u:findIn K (.ref W6) "__class__"=some (some (.builtin "object.__class__")))
   (V3y:mroIn K W6 (.type "object")=some true)
   (Y2f:findIn K (.ref W6) "__init__"=some (some (.builtin "object.__init__")))
   (V6t:kitOne K (.ref W6) (.ref CW)=some true)
   (B7b:findIn K (.ref W6) "name"=some (some (.ref A4g)))
   (B8u:isFn K (.ref A4g)=true)
   {J5p J4c:Option Addr} {J0m:Array (Option Value)} {J5w J5e J4v G9j C4u J4x:Value} (B6z:K.lookup A4g=some ⟨J5w,J5p,.func (fnOf "name" "HalfEven.name" (B0 sN6) (A9 sN6) (A2 sN6) .none J5e J4v G9j J4c C4u J4x),J0m⟩)
   (B9a:codeIn K C4u "HalfEven.name"=true)
   (B1u:keepIn K (.ref A4g)=true)
   (Z2x:nsIn K mainGlobals "FiveUp"=some (some (.ref W7)))
   (V1j:plainGet K W7 Str.empty=true)
   (Y1c:hasDictIn K W7=true)
   (V7k:plainOver K W7=true)
   (Y1m:findIn K (.ref W7) "__setattr__"=some (some (.builtin "object.__setattr__")))
   (V9a:makesIn K W7=true)
   (V6c:keepIn K (.ref W7)=true)
   (Y0m:findIn K (.ref W7) "__class__"=some (some (.builtin "object.__class__")))
   (V5g:mroIn K W7 (.type "object")=some true)
   (V7s:findIn K (.ref W7) "__init__"=some (some (.builtin "object.__init__")))
   (V3n:kitOne K (.ref W7) (.ref CW)=some true)
   (B7n:findIn K (.ref W7) "name"=some (some (.ref A4h)))
   (B7r:isFn K (.ref A4h)=true)
   {J0g J5t:Option Addr} {J4s:Array (Option Value)} {J2t G9x J5q J4j C4a J0v:Value} (B7c:K.lookup A4h=some ⟨J2t,J0g,.func (fnOf "name" "FiveUp.name" (B0 sN7) (A9 sN7) (A2 sN7) .none G9x J5q J4j J5t C4a J0v),J4s⟩)
   (B8s:codeIn K C4a "FiveUp.name"=true)
   (B1q:keepIn K (.ref A4h)=true)
   (Z3e:nsIn K mainGlobals "Number"=some (some (.ref CN)))
   (V6z:plainGet K CN Str.empty=true)
   (V4f:hasDictIn K CN=true)
   (V9d:plainOver K CN=true)
   (V4c:findIn K (.ref CN) "__setattr__"=some (some (.builtin "object.__setattr__")))
   (V3k:makesIn K CN=true)
   (V4b:keepIn K (.ref CN)=true)
   (V5t:findIn K (.ref CN) "__class__"=some (some (.builtin "object.__class__")))
   (V1n:mroIn K CN (.type "object")=some true)
   (B8d:findIn K (.ref CN) "kind"=some none)
   (B6g:findIn K (.ref CN) "sign"=some none)
   (A5m:findIn K (.ref CN) "figures"=some none)
   (B3t:findIn K (.ref CN) "power"=some none)
   (V7y:findIn K (.ref CN) "__init__"=some (some (.ref D1p)))
   (Y0p:isFn K (.ref D1p)=true)
   {Z3v Z2u:Option Addr} {Z3a:Array (Option Value)} {Z3u Z3x Z3j Z2t V0y Z3d:Value} (V1y:K.lookup D1p=some ⟨Z3u,Z3v,.func (fnOf "__init__" "Number.__init__" (B0 C9y) (A9 C9y) (A2 C9y) .none Z3x Z3j Z2t Z2u V0y Z3d),Z3a⟩)
   (V9b:codeIn K V0y "Number.__init__"=true)
   (V8b:keepIn K (.ref D1p)=true)
   (D9y:kitOne K (.ref CN) (.ref CN)=some true)
   (A5z:findIn K (.ref W0) "goes_up"=some (some (.ref Z5)))
   (A6j:isFn K (.ref Z5)=true)
   {C9k C6v:Option Addr} {C8m:Array (Option Value)} {C7s C9r C8k C8q B2u C7g:Value} (A5q:K.lookup Z5=some ⟨C7s,C9k,.func (fnOf "goes_up" "Down.goes_up" (B0 sU0) (A9 sU0) (A2 sU0) .none C9r C8k C8q C6v B2u C7g),C8m⟩)
   (A7q:codeIn K B2u "Down.goes_up"=true)
   (A1t:keepIn K (.ref Z5)=true)
   (A9h:findIn K (.ref W0) "to_end"=some (some (.ref A0x)))
   (B1a:isFn K (.ref A0x)=true)
   {D8t D7v:Option Addr} {D5d:Array (Option Value)} {D6w D5r D4d D7n B4x D3v:Value} (B0v:K.lookup A0x=some ⟨D6w,D8t,.func (fnOf "to_end" "Down.to_end" (B0 sT0) (A9 sT0) (A2 sT0) .none D5r D4d D7n D7v B4x D3v),D5d⟩)
   (A8s:codeIn K B4x "Down.to_end"=true)
   (A3s:keepIn K (.ref A0x)=true)
   (A6h:findIn K (.ref W1) "goes_up"=some (some (.ref Z7)))
   (A6g:isFn K (.ref Z7)=true)
   {C9m C7w:Option Addr} {C7h:Array (Option Value)} {C9n C9a C8c C7d B2t C9f:Value} (A7m:K.lookup Z7=some ⟨C9n,C9m,.func (fnOf "goes_up" "Up.goes_up" (B0 sU1) (A9 sU1) (A2 sU1) .none C9a C8c C7d C7w B2t C9f),C7h⟩)
   (A6x:codeIn K B2t "Up.goes_up"=true)
   (A1r:keepIn K (.ref Z7)=true)
   (A9p:findIn K (.ref W1) "to_end"=some (some (.ref A0u)))
   (A9u:isFn K (.ref A0u)=true)
   {D5n D5h:Option Addr} {G1h:Array (Option Value)} {D5w D3q D9g D9s B5k D6p:Value} (A9t:K.lookup A0u=some ⟨D5w,D5n,.func (fnOf "to_end" "Up.to_end" (B0 sT1) (A9 sT1) (A2 sT1) .none D3q D9g D9s D5h B5k D6p),G1h⟩)
   (B0r:codeIn K B5k "Up.to_end"=true)
   (A3q:keepIn K (.ref A0u)=true)
   (A7p:findIn K (.ref W2) "goes_up"=some (some (.ref Z4)))
   (A6t:isFn K (.ref Z4)=true)
   {C7x C7f:Option Addr} {C7n:Array (Option Value)} {C8n C8b C7c C9s B2r C7t:Value} (A5r:K.lookup Z4=some ⟨C8n,C7x,.func (fnOf "goes_up" "Floor.goes_up" (B0 sU2) (A9 sU2) (A2 sU2) .none C8b C7c C9s C7f B2r C7t),C7n⟩)
   (A6c:codeIn K B2r "Floor.goes_up"=true)
   (A1u:keepIn K (.ref Z4)=true)
   (A9q:findIn K (.ref W2) "to_end"=some (some (.ref A0w)))
   (A9a:isFn K (.ref A0w)=true)
   {D5g G1j:Option Addr} {D7e:Array (Option Value)} {D6d D7q D7d D7h B5b D9f:Value} (B0j:K.lookup A0w=some ⟨D6d,D5g,.func (fnOf "to_end" "Floor.to_end" (B0 sT2) (A9 sT2) (A2 sT2) .none D7q D7d D7h G1j B5b D9f),D7e⟩)
   (A9w:codeIn K B5b "Floor.to_end"=true)
   (A3m:keepIn K (.ref A0w)=true)
   (A5u:findIn K (.ref W3) "goes_up"=some (some (.ref Z9)))
   (A6d:isFn K (.ref Z9)=true)
   {C8z C6z:Option Addr} {C7z:Array (Option Value)} {C8r C9e C7p C9g B2n C7q:Value} (A5j:K.lookup Z9=some ⟨C8r,C8z,.func (fnOf "goes_up" "Ceiling.goes_up" (B0 sU3) (A9 sU3) (A2 sU3) .none C9e C7p C9g C6z B2n C7q),C7z⟩)
   (A7r:codeIn K B2n "Ceiling.goes_up"=true)
   (A1q:keepIn K (.ref Z9)=true)
   (B0e:findIn K (.ref W3) "to_end"=some (some (.ref A1a)))
   (A8r:isFn K (.ref A1a)=true)
   {D7s D3d:Option Addr} {D7t:Array (Option Value)} {D4n D6t D3p D9r B4z D3j:Value} (A8t:K.lookup A1a=some ⟨D4n,D7s,.func (fnOf "to_end" "Ceiling.to_end" (B0 sT3) (A9 sT3) (A2 sT3) .none D6t D3p D9r D3d B4z D3j),D7t⟩)
   (A8x:codeIn K B4z "Ceiling.to_end"=true)
   (A3k:keepIn K (.ref A1a)=true)
   (A7f:findIn K (.ref W4) "goes_up"=some (some (.ref Z3)))
   (A6p:isFn K (.ref Z3)=true)
   {C7a C6w:Option Addr} {C7v:Array (Option Value)} {C7m C6t C8h C6s B2p C7j:Value} (A6u:K.lookup Z3=some ⟨C7m,C7a,.func (fnOf "goes_up" "HalfUp.goes_up" (B0 sU4) (A9 sU4) (A2 sU4) .none C6t C8h C6s C6w B2p C7j),C7v⟩)
   (A5n:codeIn K B2p "HalfUp.goes_up"=true)
   (A1s:keepIn K (.ref Z3)=true)
   (B1d:findIn K (.ref W4) "to_end"=some (some (.ref A0r)))
   (A9b:isFn K (.ref A0r)=true)
   {D7m D4j:Option Addr} {D9z:Array (Option Value)} {D8f D3k D3e D9h B5e D3s:Value} (B0x:K.lookup A0r=some ⟨D8f,D7m,.func (fnOf "to_end" "HalfUp.to_end" (B0 sT4) (A9 sT4) (A2 sT4) .none D3k D3e D9h D4j B5e D3s),D9z⟩)
   (B0p:codeIn K B5e "HalfUp.to_end"=true)
   (A3j:keepIn K (.ref A0r)=true)
   (A7b:findIn K (.ref W5) "goes_up"=some (some (.ref Z8)))
   (A7j:isFn K (.ref Z8)=true)
   {C8g C7e:Option Addr} {C7k:Array (Option Value)} {C7b C8f C8e C8w B2v C7r:Value} (A6f:K.lookup Z8=some ⟨C7b,C8g,.func (fnOf "goes_up" "HalfDown.goes_up" (B0 sU5) (A9 sU5) (A2 sU5) .none C8f C8e C8w C7e B2v C7r),C7k⟩)
   (A7e:codeIn K B2v "HalfDown.goes_up"=true)
   (A1p:keepIn K (.ref Z8)=true)
   (A8w:findIn K (.ref W5) "to_end"=some (some (.ref A0v)))
   (A8n:isFn K (.ref A0v)=true)
   {D9m G0w:Option Addr} {G0g:Array (Option Value)} {D8c D4p G0a G1r B5c D7x:Value} (A8z:K.lookup A0v=some ⟨D8c,D9m,.func (fnOf "to_end" "HalfDown.to_end" (B0 sT5) (A9 sT5) (A2 sT5) .none D4p G0a G1r G0w B5c D7x),G0g⟩)
   (B1f:codeIn K B5c "HalfDown.to_end"=true)
   (A3r:keepIn K (.ref A0v)=true)
   (A6n:findIn K (.ref W6) "goes_up"=some (some (.ref Z6)))
   (A6r:isFn K (.ref Z6)=true)
   {C9q C7y:Option Addr} {C7u:Array (Option Value)} {C8t C6q C8y C6y B2q C8j:Value} (A5k:K.lookup Z6=some ⟨C8t,C9q,.func (fnOf "goes_up" "HalfEven.goes_up" (B0 sU6) (A9 sU6) (A2 sU6) .none C6q C8y C6y C7y B2q C8j),C7u⟩)
   (A6z:codeIn K B2q "HalfEven.goes_up"=true)
   (A1v:keepIn K (.ref Z6)=true)
   (B1c:findIn K (.ref W6) "to_end"=some (some (.ref A0s)))
   (A9m:isFn K (.ref A0s)=true)
   {D7b D9k:Option Addr} {G0x:Array (Option Value)} {D9d D4r D5z G0d B5g D9q:Value} (A9k:K.lookup A0s=some ⟨D9d,D7b,.func (fnOf "to_end" "HalfEven.to_end" (B0 sT6) (A9 sT6) (A2 sT6) .none D4r D5z G0d D9k B5g D9q),G0x⟩)
   (B0k:codeIn K B5g "HalfEven.to_end"=true)
   (A3n:keepIn K (.ref A0s)=true)
   (A5v:findIn K (.ref W7) "goes_up"=some (some (.ref Z2)))
   (A5s:isFn K (.ref Z2)=true)
   {C6r C8s:Option Addr} {C9b:Array (Option Value)} {C8v C6x C9j C6u B2s C8d:Value} (A6q:K.lookup Z2=some ⟨C8v,C6r,.func (fnOf "goes_up" "FiveUp.goes_up" (B0 sU7) (A9 sU7) (A2 sU7) .none C6x C9j C6u C8s B2s C8d),C9b⟩)
   (A6y:codeIn K B2s "FiveUp.goes_up"=true)
   (A1n:keepIn K (.ref Z2)=true)
   (B0y:findIn K (.ref W7) "to_end"=some (some (.ref A0z)))
   (A8y:isFn K (.ref A0z)=true)
   {D7j D5t:Option Addr} {G1e:Array (Option Value)} {D3r G0p D6f G1f B5f D5m:Value} (A8u:K.lookup A0z=some ⟨D3r,D7j,.func (fnOf "to_end" "FiveUp.to_end" (B0 sT7) (A9 sT7) (A2 sT7) .none G0p D6f G1f D5t B5f D5m),G1e⟩)
   (B0a:codeIn K B5f "FiveUp.to_end"=true)
   (A3p:keepIn K (.ref A0z)=true)
   (Z4c:nsIn K mainGlobals "Context"=some (some (.ref CC)))
   (V2r:plainGet K CC Str.empty=true)
   (Y1g:hasDictIn K CC=true)
   (Y1k:plainOver K CC=true)
   (V2p:findIn K (.ref CC) "__setattr__"=some (some (.builtin "object.__setattr__")))
   (Y0k:makesIn K CC=true)
   (V6s:keepIn K (.ref CC)=true)
   (B7u:findIn K (.ref CC) "room"=some none)
   (B8e:findIn K (.ref CC) "rule"=some none)
   (B4c:findIn K (.ref CC) "least"=some none)
   (B8n:findIn K (.ref CC) "most"=some none)
   (B4e:findIn K (.ref CC) "risen"=some none)
   (A6s:findIn K (.ref CC) "trapped"=some none)
   (V0u:findIn K (.ref CC) "__init__"=some (some (.ref D1q)))
   (Y1j:isFn K (.ref D1q)=true)
   {Z2a V3h:Option Addr} {Z3m:Array (Option Value)} {Z3n V5k Y3v V7v J1a Y1d:Value} (V3v:K.lookup D1q=some ⟨Z3n,Z2a,.func (fnOf "__init__" "Context.__init__" (B0 Z0) (A9 Z0) (A2 Z0) (.ref V0p) V5k Y3v V7v V3h J1a Y1d),Z3m⟩)
   (Y2d:codeIn K J1a "Context.__init__"=true)
   (V1q:keepIn K (.ref D1q)=true)
   {Z7x Z8m Z8x:Tok} {Z9d:Nat} {Z2m:Option Addr} {Z3z:Value} {Z2k:Array (Option Value)} (V3f:K.lookup V0p=some ⟨Z3z,Z2m,.seq #[.int 9 Z7x,.str "half even" Z8m,.none,.int 60 Z8x] Z9d,Z2k⟩)
   (B3e:findIn K (.ref CC) "flags"=some (some (.ref A2t)))
   (B3k:isFn K (.ref A2t)=true)
   {G5m G4b:Option Addr} {G3z:Array (Option Value)} {G3s G6s G3r G6b B9t G3v:Value} (B4a:K.lookup A2t=some ⟨G3s,G5m,.func (fnOf "flags" "Context.flags" (B0 A1y) (A9 A1y) (A2 A1y) .none G6s G3r G6b G4b B9t G3v),G3z⟩)
   (B3w:codeIn K B9t "Context.flags"=true)
   (A7n:keepIn K (.ref A2t)=true)
   (B0c:findIn K (.ref CC) "lowest"=some (some (.ref A0y)))
   (A9e:isFn K (.ref A0y)=true)
   {G0s D3u:Option Addr} {D8x:Array (Option Value)} {D5v D4q G0c D6x B5m G0n:Value} (A9n:K.lookup A0y=some ⟨D5v,G0s,.func (fnOf "lowest" "Context.lowest" (B0 B1j) (A9 B1j) (A2 B1j) .none D4q G0c D6x D3u B5m G0n),D8x⟩)
   (B0g:codeIn K B5m "Context.lowest"=true)
   (A3g:keepIn K (.ref A0y)=true)
   (C5c:findIn K (.ref CC) "way"=some (some (.ref B0t)))
   (C5e:isFn K (.ref B0t)=true)
   {U5z U1d:Option Addr} {U5k:Array (Option Value)} {U1z U3z U3c U6c D1d U0z:Value} (C3d:K.lookup B0t=some ⟨U1z,U5z,.func (fnOf "way" "Context.way" (B0 B1g) (A9 B1g) (A2 B1g) .none U3z U3c U6c U1d D1d U0z),U5k⟩)
   (C5f:codeIn K D1d "Context.way"=true)
   (B5j:keepIn K (.ref B0t)=true)
   (B0m:findIn K (.ref CC) "raised"=some (some (.ref A0t)))
   (B0f:isFn K (.ref A0t)=true)
   {D5x G0h:Option Addr} {D3y:Array (Option Value)} {D6a D7p G0j D7w B5h G1t:Value} (A9f:K.lookup A0t=some ⟨D6a,D5x,.func (fnOf "raised" "Context.raised" (B0 A0c) (A9 A0c) (A2 A0c) .none D7p G0j D7w G0h B5h G1t),D3y⟩)
   (A9g:codeIn K B5h "Context.raised"=true)
   (A3h:keepIn K (.ref A0t)=true)
   (Z3r:nsIn K mainGlobals "Ratio"=some (some (.ref CQ)))
   (V1x:plainGet K CQ Str.empty=true)
   (V3j:hasDictIn K CQ=true)
   (V0d:plainOver K CQ=true)
   (V2f:findIn K (.ref CQ) "__setattr__"=some (some (.builtin "object.__setattr__")))
   (Y2h:makesIn K CQ=true)
   (V6b:keepIn K (.ref CQ)=true)
   (Y2t:findIn K (.ref CQ) "__class__"=some (some (.builtin "object.__class__")))
   (Y0z:mroIn K CQ (.type "object")=some true)
   (C6g:findIn K (.ref CQ) "top"=some none)
   (B0w:findIn K (.ref CQ) "bottom"=some none)
   (B3n:findIn K (.ref CQ) "power"=some none)
   (V5r:findIn K (.ref CQ) "__init__"=some (some (.ref D1a)))
   (Y0v:isFn K (.ref D1a)=true)
   {Z4b Y3q:Option Addr} {Z3t:Array (Option Value)} {Z4d V9u V5v V5b J0x Y3x:Value} (V5a:K.lookup D1a=some ⟨Z4d,Z4b,.func (fnOf "__init__" "Ratio.__init__" (B0 A4v) (A9 A4v) (A2 A4v) (.ref V3m) V9u V5v V5b Y3q J0x Y3x),Z3t⟩)
   (V5e:codeIn K J0x "Ratio.__init__"=true)
   (V0j:keepIn K (.ref D1a)=true)
   {Y9e:Tok} {Z9h:Nat} {Z2e:Option Addr} {Z2j:Value} {Z4e:Array (Option Value)} (G5q:K.lookup V3m=some ⟨Z2j,Z2e,.seq #[.int 0 Y9e] Z9h,Z4e⟩)
   (B3z:findIn K (.ref CQ) "first"=some (some (.ref A0m)))
   (B3x:isFn K (.ref A0m)=true)
   {G5h G4c:Option Addr} {G3x:Array (Option Value)} {G6a G4m G5x G6d B9r G5t:Value} (B4d:K.lookup A0m=some ⟨G6a,G5h,.func (fnOf "first" "Ratio.first" (B0 A2n) (A9 A2n) (A2 A2n) .none G4m G5x G6d G4c B9r G5t),G3x⟩)
   (B3y:codeIn K B9r "Ratio.first"=true)
   (A6w:keepIn K (.ref A0m)=true)
   (D9t:findIn K (.ref CQ) "at"=some (some (.ref B1z)))
   (D4e:isFn K (.ref B1z)=true)
   {Y1q Y1v:Option Addr} {V7h:Array (Option Value)} {V8x V5z Y3r Y2a G6e V9v:Value} (D6e:K.lookup B1z=some ⟨V8x,Y1q,.func (fnOf "at" "Ratio.at" (B0 C0w) (A9 C0w) (A2 C0w) .none V5z Y3r Y2a Y1v G6e V9v),V7h⟩)
   (D5p:codeIn K G6e "Ratio.at"=true)
   (C0e:keepIn K (.ref B1z)=true)
   (Y6r:nsIn K mainGlobals "Exact"=some (some (.ref CE)))
   (V6g:kitOne K (.ref CQ) (.ref CE)=some true)
   (Z2d:nsIn K mainGlobals "BadContext"=some (some (.ref C1)))
   (Z3w:nsIn K mainGlobals "BadNumber"=some (some (.ref C2)))
   (Z3h:nsIn K mainGlobals "Trapped"=some (some (.ref C3)))
   (Z8r:nsIn K mainGlobals "ReckonError"=some (some (.ref CR)))
   (cty:typeIn K (.ref CR)=some (.type "type"))
   {dR:ClassData} (ccl:clsIn K CR=some dR)
   (cex:subIn K (.ref CR) (.type "BaseException")=some true)
   (sub3:subIn K (.ref C3) (.ref CR)=some true)
   (xga3:findIn K (.ref C3) "__getattribute__"=some (some (.builtin "BaseException.__getattribute__")))
   (xgh3:findIn K (.ref C3) "__getattr__"=some none)
   (xca3:findIn K (.ref C3) "__class__"=some (some (.builtin "object.__class__")))
   (xob3:mroIn K C3 (.type "object")=some true)
   (xbe3:subIn K (.ref C3) (.type "BaseException")=some true)
   {d3:ClassData} (xcl3:clsIn K C3=some d3)
   (Z7y:kitOne K (.ref C3) (.ref C1)=some false)
   (Z9b:kitOne K (.ref C3) (.ref C2)=some false)
   (Z8y:kitOne K (.ref C3) (.ref C3)=some true)
   (hv3:kitOne K (.ref C3) (.type "ValueError")=some true)
   {nmT qT:Str} {NT:Addr} {bsT bmT:List Value} {snT:List Str} {suT:List Value} {abT:Bool} {coT:Option Bool} {ddT:Option Addr} {kT0 kT1 kT2 kT3 kT5:Option Value} (lT:K.lookup C3=some (excClassObj nmT qT C3 NT bsT bmT true snT suT abT coT ddT kT0 kT1 kT2 kT3 kT5 "ValueError.__new__"))
   {ocN:Value} {odN:Option Addr} {esN:Array DictEntry} {epN:Nat} {slN:Array (Option Value)} (lN:K.lookup NT=some ⟨ocN,odN,.dict esN epN,slN⟩)
   (alN:(esN.all fun e=>match e.key with| .str _ _=>true|_=>false)=true)
   (niT:nsIn K NT "__init__"=some (some (.ref fX)))
   {nmU qU:Str} {NU:Addr} {bsU:List Value} {snU:List Str} {suU:List Value} {abU:Bool} {coU:Option Bool} {ddU:Option Addr} {kU0 kU1 kU2 kU3 kU5:Option Value} (lT1:K.lookup C1=some (excClassObj nmU qU C1 NU bsU bmT true snU suU abU coU ddU kU0 kU1 kU2 kU3 kU5 "ValueError.__new__"))
   (saT:findIn K (.ref C3) "__setattr__"=some (some (.builtin "object.__setattr__")))
   (nsg3:findIn K (.ref C3) "signal"=some none)
   {Z7r Z7s:Option Addr} {Z7p:Array (Option Value)} {Y9d Z8c Z7q Z8f Y9a Z8e:Value} (Y8d:K.lookup fX=some ⟨Y9d,Z7r,.func (fnOf "__init__" "Trapped.__init__" (B0 B1n) (A9 B1n) (A2 B1n) .none Z8c Z7q Z8f Z7s Y9a Z8e),Z7p⟩)
   (Z4g:codeIn K Y9a "Trapped.__init__"=true)
   (Z3q:keepIn K (.ref fX)=true)
   (fcT:Y9d= .type "function")
   (kTR:kitOne K (.ref C3) (.ref CR)=some true)
   (q1:excIn K C1 [.type "ValueError",.type "Exception",.type "BaseException",.type "object"] "ValueError.__new__"=true)
   (q2:excIn K C2 [.type "ValueError",.type "Exception",.type "BaseException",.type "object"] "ValueError.__new__"=true)
   (a_S:nsIn K mainGlobals "SIGNALS"=some (some (.ref aS)))
   {u0 u1 u2 u3 u4 u5 u6:Tok} {nS:Nat} {odS:Option Addr} {slS:Array (Option Value)} (lS:K.lookup aS=some ⟨.type "tuple",odS,.seq #[.str "void" u0,.str "split" u1,.str "burst" u2,.str "sunk" u3,.str "faint" u4,.str "off" u5,.str "cut" u6] nS,slS⟩)
   (Z2y:nsIn K mainGlobals "Root"=some (some (.ref RO)))
   (Y3c:plainGet K RO Str.empty=true)
   (V0w:hasDictIn K RO=true)
   (V0g:plainOver K RO=true)
   (V8y:findIn K (.ref RO) "__setattr__"=some (some (.builtin "object.__setattr__")))
   (V3d:makesIn K RO=true)
   (V1e:keepIn K (.ref RO)=true)
   (V0f:findIn K (.ref RO) "__class__"=some (some (.builtin "object.__class__")))
   (V6n:mroIn K RO (.type "object")=some true)
   (C4h:findIn K (.ref RO) "top"=some none)
   (B3v:findIn K (.ref RO) "power"=some none)
   (V7a:findIn K (.ref RO) "__init__"=some (some (.ref D1f)))
   (V3t:isFn K (.ref D1f)=true)
   {Z4a V7g:Option Addr} {Z4m:Array (Option Value)} {Z1z V5h V9h V9c J0q V7j:Value} (V2t:K.lookup D1f=some ⟨Z1z,Z4a,.func (fnOf "__init__" "Root.__init__" (B0 A5d) (A9 A5d) (A2 A5d) (.ref V7b) V5h V9h V9c V7g J0q V7j),Z4m⟩)
   (V5y:codeIn K J0q "Root.__init__"=true)
   (V9f:keepIn K (.ref D1f)=true)
   {Y9c:Tok} {Z8h:Nat} {Z3c:Option Addr} {Z2v:Value} {Z3g:Array (Option Value)} (G4z:K.lookup V7b=some ⟨Z2v,Z3c,.seq #[.int 0 Y9c] Z8h,Z3g⟩)
   (B3m:findIn K (.ref RO) "first"=some (some (.ref A0k)))
   (B4b:isFn K (.ref A0k)=true)
   {G3w G6j:Option Addr} {G4d:Array (Option Value)} {G5c G6k G4x G6h B9q G4w:Value} (B3s:K.lookup A0k=some ⟨G5c,G3w,.func (fnOf "first" "Root.first" (B0 A2k) (A9 A2k) (A2 A2k) .none G6k G4x G6h G6j B9q G4w),G4d⟩)
   (B3q:codeIn K B9q "Root.first"=true)
   (A5x:keepIn K (.ref A0k)=true)
   (D8a:findIn K (.ref RO) "at"=some (some (.ref B1r)))
   (D8p:isFn K (.ref B1r)=true)
   {V9j V7w:Option Addr} {V8g:Array (Option Value)} {V8h V7r V4e V8c G5j V6j:Value} (G1p:K.lookup B1r=some ⟨V8h,V9j,.func (fnOf "at" "Root.at" (B0 C1k) (A9 C1k) (A2 C1k) .none V7r V4e V8c V7w G5j V6j),V8g⟩)
   (G0v:codeIn K G5j "Root.at"=true)
   (C0g:keepIn K (.ref B1r)=true)
   (V0e:kitOne K (.ref RO) (.ref CE)=some true):
   ∃fd:FuncData,(∀(s:Shared) (v:Value),BindsTo s fd ⟨[v],[]⟩ [("_law_script",v)])/\∀base:Heap,K.In base ->base.Ns mainGlobals mg ->FnOk l.prog w K mg base (CX1 l.prog w) 10 fa fd ["_law_script"] (J6k K):=by
 have e:=hfa.symm.trans (mg_of X G J8j)
 cases e
 have B9p:=G0 (ps:=["whole","count"]) (st:=Y6) X G A8m B1b B0n B0z fun _ _ _ _ _ _ us hl=>match us,hl with| [_,_],_=>rfl
 have A5p:=G0 (ps:=["count"]) (st:=A0d) X G D6q G0y D9e G0f fun _ _ _ _ _ _ us hl=>match us,hl with| [_],_=>rfl
 have C3c:=G0 (ps:=["size","middle"]) (st:=A3e) X G C2w C4w C4e C2j fun _ _ _ _ _ _ us hl=>match us,hl with| [_,_],_=>rfl
 have C0f:=G0 (ps:=["whole"]) (st:=A3v) X G D5q D3w D5c D8u fun _ _ _ _ _ _ us hl=>match us,hl with| [_],_=>rfl
 have J7z:=G0 (ps:=["whole"]) (st:=A7y) X G D6z D7y D3g D4g fun _ _ _ _ _ _ us hl=>match us,hl with| [_],_=>rfl
 have cb:=G0 (ps:=["sign"]) (st:=G7r) X G V1f Y2x V1m Y0w fun _ _ _ _ _ _ us hl=>match us,hl with| [_],_=>rfl
 have bw:=G0 (ps:=["number"]) (st:=B9j) X G J3q J3d J5b J1q fun _ _ _ _ _ _ us hl=>match us,hl with| [_],_=>rfl
 have Y3e:=G0 (ps:=["number"]) (st:=C1n) X G J0n J2p J3u J2f fun _ _ _ _ _ _ us hl=>match us,hl with| [_],_=>rfl
 have D8b:=G0 (ps:=["thing"]) (st:=A8f) X G D8y D5k D8r G0z fun _ _ _ _ _ _ us hl=>match us,hl with| [_],_=>rfl
 have Y9b:=G0 (ps:=["thing","least","most"]) (st:=D2p) X G V2c V9p Y0r Y0h fun _ _ _ _ _ _ us hl=>match us,hl with| [_,_,_],_=>rfl
 have U3a:=G0 (ps:=["thing","least","most"]) (st:=A2g) X G B6u B7z B8v B7q fun _ _ _ _ _ _ us hl=>match us,hl with| [_,_,_],_=>rfl
 have aa:=G0 (ps:=["context","sign","exact","ideal"]) (st:=A0p) X G B6v B6t B8a B9c fun _ _ _ _ _ _ us hl=>match us,hl with| [_,_,_,_],_=>rfl
 have B5a:=G0 (ps:=["context","exact"]) (st:=A3a) X G C2v C5t C5w C4y fun _ _ _ _ _ _ us hl=>match us,hl with| [_,_],_=>rfl
 have B8b:=G0 (ps:=["ideal","sign","figures","power"]) (st:=A0q) X G B7y B6n B7k B7s fun _ _ _ _ _ _ us hl=>match us,hl with| [_,_,_,_],_=>rfl
 have ac:=G0 (ps:=["context","sign","pair"]) (st:=V4) X G B1e A8q A9s A9c fun _ _ _ _ _ _ us hl=>match us,hl with| [_,_,_],_=>rfl
 have C3g:=G0 (ps:=["context","sign","figures","power"]) (st:=A2v) X G C5k C3t C5d C5p fun _ _ _ _ _ _ us hl=>match us,hl with| [_,_,_,_],_=>rfl
 have C3e:=G0 (ps:=["context","number"]) (st:=A3f) X G C4b C6a C4k C6c fun _ _ _ _ _ _ us hl=>match us,hl with| [_,_],_=>rfl
 have b7:=G0 (ps:=["context","sign"]) (st:=A8g) X G D6r D4v D4z G1k fun _ _ _ _ _ _ us hl=>match us,hl with| [_,_],_=>rfl
 have b_:=G0 (ps:=["context","sign"]) (st:=A7w) X G G1n D3h G0e D9v fun _ _ _ _ _ _ us hl=>match us,hl with| [_,_],_=>rfl
 have B6w:=G0 (ps:=["part","is_cut"]) (st:=A2h) X G B6c B6h B7g B6p fun _ _ _ _ _ _ us hl=>match us,hl with| [_,_],_=>rfl
 have B8h:=G0 (ps:=["context","lead","part"]) (st:=A2e) X G B8k B8j B8y B8x fun _ _ _ _ _ _ us hl=>match us,hl with| [_,_,_],_=>rfl
 have bx:=G0 (ps:=["context","sign","ideal"]) (st:=A3d) X G C3b C2t C2k C3p fun _ _ _ _ _ _ us hl=>match us,hl with| [_,_,_],_=>rfl
 have b8:=G0 (ps:=["context","number"]) (st:=A2p) X G B8m B7x B8q B7t fun _ _ _ _ _ _ us hl=>match us,hl with| [_,_],_=>rfl
 have D5a:=G0 (ps:=["name"]) (st:=A8c) X G G1g D5y D3z G0q fun _ _ _ _ _ _ us hl=>match us,hl with| [_],_=>rfl
 have bc:=G0 (ps:=["thing","least","most"]) (st:=A2a) X G B5z B6m B8p B7v fun _ _ _ _ _ _ us hl=>match us,hl with| [_,_,_],_=>rfl
 have J8g:=G0 (ps:=["names"]) (st:=B3c) X G D7z D4u D6y D6h fun _ _ _ _ _ _ us hl=>match us,hl with| [_],_=>rfl
 have J8k:=G0 (ps:=["names"]) (st:=B3a) X G G1b D6b G0k G0m fun _ _ _ _ _ _ us hl=>match us,hl with| [_],_=>rfl
 have Y1w:=G0 (ps:=["_law_script","_law_k"]) (st:=C2e) X G J4n G9g J0c G9t fun _ _ _ _ _ _ us hl=>match us,hl with| [_,_],_=>rfl
 have D7f:=G0 (ps:=["_law_cell","_law_k"]) (st:=A8d) X G D6v D6m D8k D8h fun _ _ _ _ _ _ us hl=>match us,hl with| [_,_],_=>rfl
 have G4h:=G0 (ps:=[]) (st:=B2z) X G C4j C5y C5r C5s fun _ _ _ _ _ _ us hl=>match us,hl with| [],_=>rfl
 have J8n:=G0 (ps:=["_law_name","_law_sign","_law_near_here","_law_part"]) (st:=B2x) X G D9u D9j D4h G1q fun _ _ _ _ _ _ us hl=>match us,hl with| [_,_,_,_],_=>rfl
 have G5v:=G0 (ps:=["_law_name","_law_sign"]) (st:=A5c) X G C4c C3r C3k C3f fun _ _ _ _ _ _ us hl=>match us,hl with| [_,_],_=>rfl
 have C4v:=G0 (ps:=["_law_count"]) (st:=B2f) X G J3e J4r J3b J2w fun _ _ _ _ _ _ us hl=>match us,hl with| [_],_=>rfl
 have G6g:=G0 (ps:=["_law_cell"]) (st:=B2y) X G C4r C5h C3z C4x fun _ _ _ _ _ _ us hl=>match us,hl with| [_],_=>rfl
 have V6d:=G0 (ps:=["_law_cell"]) (st:=C1b) X G J4q J0a J5v G9w fun _ _ _ _ _ _ us hl=>match us,hl with| [_],_=>rfl
 have G4s:=G0 (ps:=["_law_cell","_law_parts"]) (st:=A4t) X G C3y C5v C6b C5j fun _ _ _ _ _ _ us hl=>match us,hl with| [_,_],_=>rfl
 have A6a:=G0 (ps:=["_law_exact","_law_whole","_law_power"]) (st:=V8) X G B3h B3r B4g B3p fun _ _ _ _ _ _ us hl=>match us,hl with| [_,_,_],_=>rfl
 have J8b:=G0 (ps:=["_law_exact"]) (st:=A2r) X G G0b G1s D4m D7c fun _ _ _ _ _ _ us hl=>match us,hl with| [_],_=>rfl
 have C4s:=G0 (ps:=["_law_exact"]) (st:=A2x) X G C2m C6e C4g C4z fun _ _ _ _ _ _ us hl=>match us,hl with| [_],_=>rfl
 have J8c:=G0 (ps:=["_law_exact","_law_power"]) (st:=B2w) X G D7u D8m G0t D4c fun _ _ _ _ _ _ us hl=>match us,hl with| [_,_],_=>rfl
 have G5g:=G0 (ps:=["_law_parts","_law_exact","_law_sign","_law_found","_law_flags"]) (st:=A0b) X G C2y C4q C3w C4d fun _ _ _ _ _ _ us hl=>match us,hl with| [_,_,_,_,_],_=>rfl
 have J8e:=G0 (ps:=["_law_parts","_law_exact","_law_sign","_law_ideal"]) (st:=A1z) X G D9x D8n G1d G0u fun _ _ _ _ _ _ us hl=>match us,hl with| [_,_,_,_],_=>rfl
 have G5a:=G0 (ps:=["_law_parts","_law_found","_law_number"]) (st:=A4z) X G C6h C5x C3u C2s fun _ _ _ _ _ _ us hl=>match us,hl with| [_,_,_],_=>rfl
 have G4k:=G0 (ps:=["_law_one","_law_other"]) (st:=A5f) X G C3m C2n C2q C4n fun _ _ _ _ _ _ us hl=>match us,hl with| [_,_],_=>rfl
 have Z8s:=G0 (ps:=["_law_script"]) (st:=D2f) X G J8j Y3d V6w V1h fun _ _ _ _ _ _ us hl=>match us,hl with| [_],_=>rfl
 have O:Own mg:=⟨mg_none_of X G A7s,mg_none_of X G V8e,mg_none_of X G J0j,mg_none_of X G V5u,mg_none_of X G G9p,mg_none_of X G D4a,mg_none_of X G G9k,mg_none_of X G V4q,mg_none_of X G D6u,mg_none_of X G V0t,mg_none_of X G V4m,mg_none_of X G V3r,mg_none_of X G V4h,mg_none_of X G Y2k,mg_none_of X G V8d,mg_none_of X G G9y,mg_none_of X G B0h,mg_none_of X G B3f,mg_none_of X G Y2q,mg_none_of X G C3v,mg_none_of X G C6d,mg_none_of X G V6q,mg_none_of X G A6e⟩
 have T:Kit K:=⟨B3j,A9j,B3u,B0u,A6b,A9x,A9y,A6m,A9z,A7k,A3w,A7a,B3g,B0s,B4h,B0d,A7h,B0q,A9v,A5t,B0b,A7c,A4a,A6k,A7g,A3y,A6v,A4b,A2s,A3z,A8v,A5w,A8p,A7d,A3x,A5y,A1g,A0h,A1f,A0j,Z1,A0g⟩
 have Z8u:Cls K W0:=⟨Y3p,V2n,V3x,V1s⟩
 have Z8g:Mk0 K W0:=⟨Y1e,Y1f,Y0t⟩
 have bd:=J0 (st:=sN0) B6j B8f B1w
 have U5d:=bd.binds (ps:=["self"]) fun _ _ _ _ _ _ us hl=>match us,hl with| [_],_=>rfl
 have J3m:Meth K W0 "name" A4j:=⟨B6d,B7e,B1w⟩
 have WC0:WayC K mg "Down" W0 CW:=⟨mg_of X G Z3p,Z8u,Z8g,V9r,sn,tk,V6y,V2q⟩
 have Z8j:Cls K W1:=⟨V2j,V4x,Y3u,V1z⟩
 have Z8d:Mk0 K W1:=⟨V7e,Y2y,Y3g⟩
 have bg:=J0 (st:=sN1) B7h B8t B1x
 have U1u:=bg.binds (ps:=["self"]) fun _ _ _ _ _ _ us hl=>match us,hl with| [_],_=>rfl
 have G9u:Meth K W1 "name" A4f:=⟨B6x,B6b,B1x⟩
 have WC1:WayC K mg "Up" W1 CW:=⟨mg_of X G Z4k,Z8j,Z8d,V7t,sn,tk,Y2b,V2z⟩
 have Z8z:Cls K W2:=⟨V4j,V7p,V2u,V2b⟩
 have Z8t:Mk0 K W2:=⟨V9z,V9n,V6v⟩
 have bh:=J0 (st:=sN2) B6r B8g B1s
 have U3q:=bh.binds (ps:=["self"]) fun _ _ _ _ _ _ us hl=>match us,hl with| [_],_=>rfl
 have J3g:Meth K W2 "name" A4m:=⟨B7a,B8c,B1s⟩
 have WC2:WayC K mg "Floor" W2 CW:=⟨mg_of X G Z4j,Z8z,Z8t,V5j,sn,tk,V5s,V2w⟩
 have Z7v:Cls K W3:=⟨V9x,V6k,V0k,V2m⟩
 have Z8q:Mk0 K W3:=⟨V7m,V1t,Y0q⟩
 have bi:=J0 (st:=sN3) B7f B6s B1v
 have U3m:=bi.binds (ps:=["self"]) fun _ _ _ _ _ _ us hl=>match us,hl with| [_],_=>rfl
 have J1w:Meth K W3 "name" A4p:=⟨B8w,B6y,B1v⟩
 have WC3:WayC K mg "Ceiling" W3 CW:=⟨mg_of X G Z2z,Z7v,Z8q,V0z,sn,tk,Y2n,V9t⟩
 have Z8b:Cls K W4:=⟨V7z,V8a,Y0d,Y2v⟩
 have Z8n:Mk0 K W4:=⟨V7n,V3a,V8s⟩
 have bj:=J0 (st:=sN4) B7p B6k B1t
 have U1j:=bj.binds (ps:=["self"]) fun _ _ _ _ _ _ us hl=>match us,hl with| [_],_=>rfl
 have J3v:Meth K W4 "name" A4q:=⟨B8r,B7w,B1t⟩
 have WC4:WayC K mg "HalfUp" W4 CW:=⟨mg_of X G Z4h,Z8b,Z8n,Y0a,sn,tk,V6x,V4v⟩
 have Z8a:Cls K W5:=⟨V9q,Y3s,V4g,V1c⟩
 have Z7u:Mk0 K W5:=⟨V1p,V4d,V4u⟩
 have bq:=J0 (st:=sN5) B6q B7m B1y
 have U1q:=bq.binds (ps:=["self"]) fun _ _ _ _ _ _ us hl=>match us,hl with| [_],_=>rfl
 have J4y:Meth K W5 "name" A4n:=⟨B6a,B9d,B1y⟩
 have WC5:WayC K mg "HalfDown" W5 CW:=⟨mg_of X G Z3f,Z8a,Z7u,V3e,sn,tk,V2e,Y1p⟩
 have Z7w:Cls K W6:=⟨V9k,V0h,V8p,Y0s⟩
 have Z9f:Mk0 K W6:=⟨V2s,Y2f,V6r⟩
 have bt:=J0 (st:=sN6) B6z B9a B1u
 have U1f:=bt.binds (ps:=["self"]) fun _ _ _ _ _ _ us hl=>match us,hl with| [_],_=>rfl
 have J2n:Meth K W6 "name" A4g:=⟨B7b,B8u,B1u⟩
 have WC6:WayC K mg "HalfEven" W6 CW:=⟨mg_of X G Z4f,Z7w,Z9f,V6u,sn,tk,V3y,V6t⟩
 have Z8v:Cls K W7:=⟨V1j,Y1c,V7k,Y1m⟩
 have Z8p:Mk0 K W7:=⟨V9a,V7s,V6c⟩
 have bu:=J0 (st:=sN7) B7c B8s B1q
 have U5y:=bu.binds (ps:=["self"]) fun _ _ _ _ _ _ us hl=>match us,hl with| [_],_=>rfl
 have J5k:Meth K W7 "name" A4h:=⟨B7n,B7r,B1q⟩
 have WC7:WayC K mg "FiveUp" W7 CW:=⟨mg_of X G Z2x,Z8v,Z8p,Y0m,sn,tk,V5g,V3n⟩
 let cw:Wy ->Addr:=fun y=>match y with| .down=>W0| .up=>W1| .floor=>W2| .ceiling=>W3| .halfUp=>W4| .halfDown=>W5| .halfEven=>W6| .fiveUp=>W7
 have W:∀y:Wy,WayC K mg y.cls (cw y) CW:=fun y=>match y with| .down=>WC0| .up=>WC1| .floor=>WC2| .ceiling=>WC3| .halfUp=>WC4| .halfDown=>WC5| .halfEven=>WC6| .fiveUp=>WC7
 have Z8w:Cls K CN:=⟨V6z,V4f,V9d,V4c⟩
 have cf:=J0 (st:=C9y) V1y V9b V8b
 have Z8k:=cf.binds (ps:=["self","kind","sign","figures","power"]) fun _ _ _ _ _ _ us hl=>match us,hl with| [_,_,_,_,_],_=>rfl
 have d5:Mk K CN D1p:=⟨V3k,V7y,Y0p,V4b⟩
 have N:Num K mg CN:=⟨mg_of X G Z3e,Z8w,B8d,B6g,A5m,B3t,V5t,sn,tk,V1n,D9y⟩
 have ae:=J0 (st:=sU0) A5q A7q A1t
 have D3n:=ae.binds (ps:=["self","sign","last","part"]) fun _ _ _ _ _ _ us hl=>match us,hl with| [_,_,_,_],_=>rfl
 have C8p:Meth K W0 "goes_up" Z5:=⟨A5z,A6j,A1t⟩
 have ao:=J0 (st:=sT0) B0v A8s A3s
 have G4q:=ao.binds (ps:=["self","sign"]) fun _ _ _ _ _ _ us hl=>match us,hl with| [_,_],_=>rfl
 have G0r:Meth K W0 "to_end" A0x:=⟨A9h,B1a,A3s⟩
 have af:=J0 (st:=sU1) A7m A6x A1r
 have D7r:=af.binds (ps:=["self","sign","last","part"]) fun _ _ _ _ _ _ us hl=>match us,hl with| [_,_,_,_],_=>rfl
 have C9c:Meth K W1 "goes_up" Z7:=⟨A6h,A6g,A1r⟩
 have ap:=J0 (st:=sT1) A9t B0r A3q
 have G5k:=ap.binds (ps:=["self","sign"]) fun _ _ _ _ _ _ us hl=>match us,hl with| [_,_],_=>rfl
 have D5e:Meth K W1 "to_end" A0u:=⟨A9p,A9u,A3q⟩
 have ah:=J0 (st:=sU2) A5r A6c A1u
 have D8q:=ah.binds (ps:=["self","sign","last","part"]) fun _ _ _ _ _ _ us hl=>match us,hl with| [_,_,_,_],_=>rfl
 have C9h:Meth K W2 "goes_up" Z4:=⟨A7p,A6t,A1u⟩
 have aq:=J0 (st:=sT2) B0j A9w A3m
 have G4g:=aq.binds (ps:=["self","sign"]) fun _ _ _ _ _ _ us hl=>match us,hl with| [_,_],_=>rfl
 have D8d:Meth K W2 "to_end" A0w:=⟨A9q,A9a,A3m⟩
 have ai:=J0 (st:=sU3) A5j A7r A1q
 have D6c:=ai.binds (ps:=["self","sign","last","part"]) fun _ _ _ _ _ _ us hl=>match us,hl with| [_,_,_,_],_=>rfl
 have C8a:Meth K W3 "goes_up" Z9:=⟨A5u,A6d,A1q⟩
 have ar:=J0 (st:=sT3) A8t A8x A3k
 have G6c:=ar.binds (ps:=["self","sign"]) fun _ _ _ _ _ _ us hl=>match us,hl with| [_,_],_=>rfl
 have D8e:Meth K W3 "to_end" A1a:=⟨B0e,A8r,A3k⟩
 have aj:=J0 (st:=sU4) A6u A5n A1s
 have D7k:=aj.binds (ps:=["self","sign","last","part"]) fun _ _ _ _ _ _ us hl=>match us,hl with| [_,_,_,_],_=>rfl
 have C8x:Meth K W4 "goes_up" Z3:=⟨A7f,A6p,A1s⟩
 have au:=J0 (st:=sT4) B0x B0p A3j
 have G5b:=au.binds (ps:=["self","sign"]) fun _ _ _ _ _ _ us hl=>match us,hl with| [_,_],_=>rfl
 have D5u:Meth K W4 "to_end" A0r:=⟨B1d,A9b,A3j⟩
 have ak:=J0 (st:=sU5) A6f A7e A1p
 have D6g:=ak.binds (ps:=["self","sign","last","part"]) fun _ _ _ _ _ _ us hl=>match us,hl with| [_,_,_,_],_=>rfl
 have C9p:Meth K W5 "goes_up" Z8:=⟨A7b,A7j,A1p⟩
 have av:=J0 (st:=sT5) A8z B1f A3r
 have G4e:=av.binds (ps:=["self","sign"]) fun _ _ _ _ _ _ us hl=>match us,hl with| [_,_],_=>rfl
 have D7a:Meth K W5 "to_end" A0v:=⟨A8w,A8n,A3r⟩
 have al:=J0 (st:=sU6) A5k A6z A1v
 have D8j:=al.binds (ps:=["self","sign","last","part"]) fun _ _ _ _ _ _ us hl=>match us,hl with| [_,_,_,_],_=>rfl
 have C8u:Meth K W6 "goes_up" Z6:=⟨A6n,A6r,A1v⟩
 have aw:=J0 (st:=sT6) A9k B0k A3n
 have G6r:=aw.binds (ps:=["self","sign"]) fun _ _ _ _ _ _ us hl=>match us,hl with| [_,_],_=>rfl
 have D3f:Meth K W6 "to_end" A0s:=⟨B1c,A9m,A3n⟩
 have am:=J0 (st:=sU7) A6q A6y A1n
 have D4t:=am.binds (ps:=["self","sign","last","part"]) fun _ _ _ _ _ _ us hl=>match us,hl with| [_,_,_,_],_=>rfl
 have C9d:Meth K W7 "goes_up" Z2:=⟨A5v,A5s,A1n⟩
 have ax:=J0 (st:=sT7) A8u B0a A3p
 have G6n:=ax.binds (ps:=["self","sign"]) fun _ _ _ _ _ _ us hl=>match us,hl with| [_,_],_=>rfl
 have D4y:Meth K W7 "to_end" A0z:=⟨B0y,A8y,A3p⟩
 have Z9e:Cls K CC:=⟨V2r,Y1g,Y1k,V2p⟩
 have Z7n:=D2g (st:=Z0) V3v Y2d V1q
 have d8:Mk K CC D1q:=⟨Y0k,V0u,Y1j,V6s⟩
 have a_:=J0 (st:=A1y) B4a B3w A7n
 have J5x:=a_.binds (ps:=["self"]) fun _ _ _ _ _ _ us hl=>match us,hl with| [_],_=>rfl
 have G4p:Meth K CC "flags" A2t:=⟨B3e,B3k,A7n⟩
 have ay:=J0 (st:=B1j) A9n B0g A3g
 have G5p:=ay.binds (ps:=["self"]) fun _ _ _ _ _ _ us hl=>match us,hl with| [_],_=>rfl
 have D4f:Meth K CC "lowest" A0y:=⟨B0c,A9e,A3g⟩
 have bz:=J0 (st:=B1g) C3d C5f B5j
 have V3q:=bz.binds (ps:=["self"]) fun _ _ _ _ _ _ us hl=>match us,hl with| [_],_=>rfl
 have U4c:Meth K CC "way" B0t:=⟨C5c,C5e,B5j⟩
 have az:=J0 (st:=A0c) A9f A9g A3h
 have G5d:=az.binds (ps:=["self","names"]) fun _ _ _ _ _ _ us hl=>match us,hl with| [_,_],_=>rfl
 have D6j:Meth K CC "raised" A0t:=⟨B0m,B0f,A3h⟩
 have Z9a:Cls K CQ:=⟨V1x,V3j,V0d,V2f⟩
 have Z7t:=D2g (st:=A4v) V5a V5e V0j
 have d9:Mk K CQ D1a:=⟨Y2h,V5r,Y0v,V6b⟩
 have b5:=J0 (st:=A2n) B4d B3y A6w
 have G9v:=b5.binds (ps:=["self"]) fun _ _ _ _ _ _ us hl=>match us,hl with| [_],_=>rfl
 have G5z:Meth K CQ "first" A0m:=⟨B3z,B3x,A6w⟩
 have c7:=J0 (st:=C0w) D6e D5p C0e
 have J8m:=c7.binds (ps:=["self","power"]) fun _ _ _ _ _ _ us hl=>match us,hl with| [_,_],_=>rfl
 have G4y:Meth K CQ "at" B1z:=⟨D9t,D4e,C0e⟩
 have xk3:ExcK K C3:=⟨xga3,xgh3,xca3,sn,tk,xob3,xbe3,by rw[xcl3];rfl⟩
 have nkT:nsOkIn K NT=true:=by unfold nsOkIn;rw[lN];exact alN
 have tlT:tailIn K J7j bmT=true:=by
   have z:=q1
   unfold excIn at z
   rw[lT1] at z
   simp only[excClassObj,Bool.and_eq_true] at z
   exact z.1.1.2
 have cj:=J0 (st:=B1n) Y8d Z4g Z3q
 have db:=cj.binds (ps:=["self","signal"]) fun _ _ _ _ _ _ us hl=>match us,hl with| [_,_],_=>rfl
 have XI3:ExcI K C3 fX:=⟨⟨_,_,_,_,_,_,_,_,_,_,_,_,_,_,_,lT,nkT,niT,tlT⟩,⟨_,Y8d,fcT⟩,saT,xob3⟩
 have SG:SigK K mg aS:=⟨mg_of X G a_S,⟨_,lS,rfl⟩,fun H=> .inr ⟨_,_,_,lS,rfl,rfl,C7 (by show 7<=1000;decide),.cons ⟨_,rfl⟩ (.cons ⟨_,rfl⟩ (.cons ⟨_,rfl⟩ (.cons ⟨_,rfl⟩ (.cons ⟨_,rfl⟩ (.cons ⟨_,rfl⟩ (.cons ⟨_,rfl⟩ (.nil)))))))⟩⟩
 have Z9c:Cls K RO:=⟨Y3c,V0w,V0g,V8y⟩
 have Z9g:=D2g (st:=A5d) V2t V5y V9f
 have dc:Mk K RO D1f:=⟨V3d,V7a,V3t,V1e⟩
 have b6:=J0 (st:=A2k) B3s B3q A5x
 have J5m:=b6.binds (ps:=["self"]) fun _ _ _ _ _ _ us hl=>match us,hl with| [_],_=>rfl
 have G4t:Meth K RO "first" A0k:=⟨B3m,B4b,A5x⟩
 have c8:=J0 (st:=C1k) G1p G0v C0g
 have Y7y:=c8.binds (ps:=["self","power"]) fun _ _ _ _ _ _ us hl=>match us,hl with| [_,_],_=>rfl
 have Y1u:Meth K RO "at" B1r:=⟨D8a,D8p,C0g⟩
 have C:CtxC K mg CC:=⟨mg_of X G Z4c,Z9e,B7u,B8e,B4c,B8n,B4e,A6s⟩
 have B1:Err K mg "BadContext" C1:=⟨mg_of X G Z2d,q1⟩
 have B2:Err K mg "BadNumber" C2:=⟨mg_of X G Z3w,q2⟩
 have R:RatC K mg CQ CE:=⟨mg_of X G Z3r,mg_of X G Y6r,Z9a,C6g,B0w,B3n,Y2t,sn,tk,Y0z,V6g⟩
 have b4:=C0z (fd:=fnOf "__init__" "Context.__init__" (B0 Z0) (A9 Z0) (A2 Z0) (.ref V0p) V5k Y3v V7v V3h J1a Y1d) (ps:=["self","room","way","least","most"]) (ds:=[]) rfl V3f rfl fun us hl=>by obtain⟨a,b,c,d,e,rfl⟩:=len5 (G7m hl);exact⟨_,rfl,rfl⟩
 refine⟨fnOf "law" "law" (B0 D2f) (A9 D2f) (A2 D2f) .none V8r V1r V6m V8w J5f V8f,fun s v=> .of_eq rfl,fun base _ _=>?_⟩
 have WN:∀y:Wy,Z6s l.prog w K mg base (cw y) y.name:=fun y=>match y with| .down=>⟨_,_,J3m,Z5r bd,U5d⟩| .up=>⟨_,_,G9u,Z5h bg,U1u⟩| .floor=>⟨_,_,J3g,Z7k bh,U3q⟩| .ceiling=>⟨_,_,J1w,Z6q bi,U3m⟩| .halfUp=>⟨_,_,J3v,Z4s bj,U1j⟩| .halfDown=>⟨_,_,J4y,Z5s bq,U1q⟩| .halfEven=>⟨_,_,J2n,Z5d bt,U1f⟩| .fiveUp=>⟨_,_,J5k,Z5a bu,U5y⟩
 have U:∀y:Wy,Z5m l.prog w K mg base (cw y) y:=fun y=>match y with| .down=>⟨_,_,C8p,Z6e ae,D3n⟩| .up=>⟨_,_,C9c,Z7m af,D7r⟩| .floor=>⟨_,_,C9h,Z6w ah,D8q⟩| .ceiling=>⟨_,_,C8a,Z4r ai,D6c⟩| .halfUp=>⟨_,_,C8x,Z4w aj,D7k⟩| .halfDown=>⟨_,_,C9p,Z5k ak,D6g⟩| .halfEven=>⟨_,_,C8u,Z5q al,D8j⟩| .fiveUp=>⟨_,_,C9d,Z5n am,D4t⟩
 have E2:∀y:Wy,Z6r l.prog w K mg base (cw y) y:=fun y=>match y with| .down=>⟨_,_,G0r,Z6f ao,G4q⟩| .up=>⟨_,_,D5e,Z7e ap,G5k⟩| .floor=>⟨_,_,D8d,Z6v aq,G4g⟩| .ceiling=>⟨_,_,D8e,Z5t ar,G6c⟩| .halfUp=>⟨_,_,D5u,Z5f au,G5b⟩| .halfDown=>⟨_,_,D7a,Z7b av,G4e⟩| .halfEven=>⟨_,_,D3f,Z5j aw,G6r⟩| .fiveUp=>⟨_,_,D4y,Z6j ax,G6n⟩
 have Gb:=G6w (P:=l.prog) (w:=w) (base:=base) bc Y9b O T B1
 have Gw:=U6k (P:=l.prog) (w:=w) (base:=base) D5a O T B1 W
 have MC:MakeC l.prog w K mg base CC C1 D1q _:=⟨d8,G7j Z7n bc D5a Gb Gw C W WN⟩
 have MR : MakeR l.prog w K mg base CQ D1a (fnOf "__init__" "Ratio.__init__" (B0 A4v) (A9 A4v) (A2 A4v) (.ref V3m) V9u V5v V5b Y3q J0x Y3x) (.int 0 Y9e) (fun us ws=>match ws with| [a]=>us++ [a]|_=>[]) (fun us ws=>match ws with| [a]=>us++ [a]|_=>[]):=
   { m :=d9
     g:=U6q Z7t R
     b3:=C0z rfl G5q rfl fun us hl=>by obtain⟨a,b,c,d,rfl⟩:=Z6p (G7m hl);exact⟨_,rfl,rfl⟩
     b2:=C0z rfl G5q rfl fun us hl=>by obtain⟨a,b,c,rfl⟩:=Y5g (G7m hl);exact⟨_,rfl,rfl⟩
     r0:=⟨_,rfl⟩
     kP := ⟨(fun s us ws XK hl=>by
         rcases ws with _|⟨p,_|⟨q,t⟩⟩
         . cases hl
         . obtain⟨a,b,c,rfl⟩:=Y5g (G7m hl)
           exact binds_K XK rfl G5q rfl rfl rfl
         . cases hl),fun r z=>match z with
       | .cons a .nil=>r.append (.cons a .nil)
       | .nil=> .nil
       | .cons _ (.cons _ _)=> .nil⟩
     eP:=fun _ _ _ _=>rfl}
 have M:MakeN l.prog w K mg base CN D1p _:=⟨d5,Y5y cf N,Z8k⟩
 have Gn:=U8f (P:=l.prog) (w:=w) (base:=base) J8g O T B1 SG
 have Go:=U7t (P:=l.prog) (w:=w) (base:=base) J8k SG
 have GX:=J9r (P:=l.prog) (w:=w) (mg:=mg) (base:=base) cj XI3 nsg3
 have MF:Has l.prog w K mg base CC "flags" 1 ["self"] (A5e CC):=⟨_,_,G4p,G1u a_ C O,J5x⟩
 have ML:Has l.prog w K mg base CC "lowest" 1 ["self"] (C1t CC):=⟨_,_,D4f,J8u ay C,G5p⟩
 have MW:Has l.prog w K mg base CC "way" 2 ["self"] (C0t CC cw):=⟨_,_,U4c,U0j bz D5a Gw C,V3q⟩
 have MD:Has l.prog w K mg base CC "raised" 3 ["self","names"] (C1x K CC C1 C3):=⟨_,_,D6j,J9q az J8g Gn J8k Go C (mg_of X G Z3h) XI3 GX db,G5d⟩
 have CM:CtxM l.prog w K mg base CC C1 C3 CW cw:=⟨C,MW,ML,MD,W,U,E2⟩
 have cm:=G2q (P:=l.prog) (w:=w) (base:=base) D8b O T B2 N
 have cg:=Y6b (P:=l.prog) (w:=w) (base:=base) bw D8b O T B2 N
 have df:=Z0z (P:=l.prog) (w:=w) (base:=base) cb U3a Y9b O T B2 N M
 have cz:=Y5k (P:=l.prog) (w:=w) (base:=base) Y3e O N
 have Gto:=U9m (P:=l.prog) (w:=w) (base:=base) A5p B9p (D2b B9p)
 have ci:=J9y (P:=l.prog) (w:=w) (base:=base) C3c
 have Gwl:=U7y (P:=l.prog) (w:=w) (base:=base) C0f A5p Gto
 have Gat:=Z1s (P:=l.prog) (w:=w) (base:=base) c7 A5p Gto C3c ci R O
 have RM:RatM l.prog w K mg base CQ A0m B1z _ _:=⟨G5z,J9f b5 C0f Gwl G4y Gat J8m R,G9v,G4y,Gat,J8m⟩
 have cn:=G8h (P:=l.prog) (w:=w) (base:=base) B8b N M
 have cp:=D2x (P:=l.prog) (w:=w) (base:=base) ac CM
 have cq:=J9h (P:=l.prog) (w:=w) (base:=base) C3g A5p Gto CM N M
 have cr:=J9c (P:=l.prog) (w:=w) (base:=base) C3e Y3e cz CM N
 have dg:=U6w (P:=l.prog) (w:=w) (base:=base) b_ A5p Gto CM N M
 have cu:=U8e (P:=l.prog) (w:=w) (base:=base) b7 b_ dg cb df CM
 have Gsr:=G8g (P:=l.prog) (w:=w) (base:=base) B6w
 have Gsl:=G7h (P:=l.prog) (w:=w) (base:=base) B8h CM
 have dh:=J8s (P:=l.prog) (w:=w) (base:=base) bx CM N M O
 have RQ:RooC K mg RO CE:=⟨mg_of X G Z2y,mg_of X G Y6r,Z9c,C4h,B3v,V0f,sn,tk,V6n,V0e⟩
 have MQ : MakeQ l.prog w K mg base RO D1f (fnOf "__init__" "Root.__init__" (B0 A5d) (A9 A5d) (A2 A5d) (.ref V7b) V5h V9h V9c V7g J0q V7j) (.int 0 Y9c) (fun us ws=>match ws with| [a]=>us++ [a]|_=>[]) (fun us ws=>match ws with| [a]=>us++ [a]|_=>[]):=
   { m :=dc
     g:=U8r Z9g RQ
     b3:=C0z rfl G4z rfl fun us hl=>by obtain⟨a,b,c,rfl⟩:=Y5g (G7m hl);exact⟨_,rfl,rfl⟩
     b2:=C0z rfl G4z rfl fun us hl=>by obtain⟨a,b,rfl⟩:=Z1u (G7m hl);exact⟨_,rfl,rfl⟩
     r0:=⟨_,rfl⟩
     kP := ⟨(fun s us ws XK hl=>by
         rcases ws with _|⟨p,_|⟨q,t⟩⟩
         . cases hl
         . obtain⟨a,b,rfl⟩:=Z1u (G7m hl)
           exact binds_K XK rfl G4z rfl rfl rfl
         . cases hl),fun r z=>match z with
       | .cons a .nil=>r.append (.cons a .nil)
       | .nil=> .nil
       | .cons _ (.cons _ _)=> .nil⟩
     eP:=fun _ _ _=>rfl}
 have QM:RooM l.prog w K mg base RO A0k B1r _ _:=⟨G4t,U0e b6 C0f Gwl RQ,J5m,Y1u,Z0m c8 A5p Gto C3c ci J7z (U7d J7z A5p Gto C0f Gwl) RQ O,Y7y⟩
 have XR:=ratM RM R
 have XQ:=rooM QM RQ
 have GsR:=B9m (CE:=CE) (P:=l.prog) (w:=w) (base:=base) aa B5a (C1g (CE:=CE) B5a CM XR O) B8b cn ac cp C3g cq C3e cr b7 cu B6w Gsr B8h Gsl CM XR N
 have GsQ:=B9m (CE:=CE) (P:=l.prog) (w:=w) (base:=base) aa B5a (C1g (CE:=CE) B5a CM XQ O) B8b cn ac cp C3g cq C3e cr b7 cu B6w Gsr B8h Gsl CM XQ N
 have dj:FnOk l.prog w K mg base (CX1 l.prog w) 6 A4k _ ["context","sign","exact","ideal"] (B5x CN CC C3 CQ):=FnOk.weak (fun _ _ _ _ h=>G3q h) GsR
 have c_:FnOk l.prog w K mg base (CX1 l.prog w) 6 A4k _ ["context","sign","exact","ideal"] (B3d CN CC C3 CQ RO):=FnOk.both GsR GsQ
 have Gro:=U0r (CB:=C1) (CW:=CW) (cw:=cw) (P:=l.prog) (w:=w) (base:=base) b8 D8b cm bx dh aa dj MR R N
 have d4:=Y6d (P:=l.prog) (w:=w) (base:=base) Y1w O
 have cx:=U9k (P:=l.prog) (w:=w) (base:=base) D7f
 have dk:=U8n (P:=l.prog) (w:=w) (base:=base) G4h
 have dm:=U9j (P:=l.prog) (w:=w) (base:=base) J8n O
 have du:=J9e (P:=l.prog) (w:=w) (base:=base) G5v
 have bv:=Y5c (P:=l.prog) (w:=w) (base:=base) C4v O
 have dw:=U9f (P:=l.prog) (w:=w) (base:=base) G6g G4h dk
 have dy:=Y6k (P:=l.prog) (w:=w) (base:=base) V6d C4v bv
 have dz:=U0d (P:=l.prog) (w:=w) (base:=base) G4s D7f cx V6d dy O
 have c9:=G3g (P:=l.prog) (w:=w) (base:=base) A6a C4v bv O
 have d_:=G8t (P:=l.prog) (w:=w) (base:=base) J8b MR R MQ RQ
 have cy:=U0f (P:=l.prog) (w:=w) (base:=base) C4s A6a c9 O
 have eg:=U9w (P:=l.prog) (w:=w) (base:=base) J8c A6a c9 C4s cy O
 have eh:=G2m (P:=l.prog) (w:=w) (base:=base) G5g C4s cy J8c eg A6a c9 J8n dm G5v du C4v bv O
 have ej:=G8b (P:=l.prog) (w:=w) (base:=base) J8e J8b d_ aa c_ bw cg MC b4 C MF
 have ek:=U0k (P:=l.prog) (w:=w) (base:=base) G5a b8 Gro bw cg MC b4 C MF
 have em:=J8w (P:=l.prog) (w:=w) (base:=base) G4k C4v bv O
 exact Z0v Z8s Y1w d4 D7f cx G6g dw G4s dz J8e ej G5g eh G5a ek G4k em O
theorem walk{l:OpenLaw}{q:Program}{loose:List Str}{XP:(Str ->Option Value) ->Heap ->Prop}{YP:World ->Heap ->Prop}{d:DefRec}{K:Params ->Frag}(hn:l.most=some 63)(hdf:d.params.defaults=[])
   (hY:∀(w:World) (h:Heap),YP w h ->(K w.params).In h)
   (F:∀(w:World) (mg:Str ->Option Value) (fa:Addr) (h:Heap),(K w.params).In h ->h.Ns mainGlobals mg ->mg d.name=some (.ref fa) ->
     ∃fd:FuncData,(∀(s:Shared) (u:Value),BindsTo s fd ⟨[u],[]⟩ [("_law_script",u)])/\∀base:Heap,(K w.params).In base ->base.Ns mainGlobals mg ->FnOk l.prog w (K w.params) mg base (CX1 l.prog w) 10 fa fd ["_law_script"] ((J6k (K w.params)))):
   WalkO q loose XP YP l.row.toRowW d [] (fun f vs=>PySem.call f vs):=
 L2.walk_of (n:=63) (k:=10) (x:="_law_script") (CX:=fun w=>CX1 l.prog w) (sp:=fun w=>(J6k (K w.params))) hn (by decide) hdf ⟨rfl,by decide,by decide⟩ hY F (fun _ _ a ns hl _ hS=>⟨a,ns,rfl,hl,hS,fun _=>rfl⟩) fun _ _ _ _ _ z=>by
   obtain⟨_,_,_,_,_,_,_,_,_,_,z,_⟩:=z
   exact z
end TR
namespace PySem.W.Fast
theorem tw1650154076468677556:True:=trivial
theorem tw14083233489645919032:True:=trivial
theorem tw12085727143656267945:True:=trivial
theorem tw5772933296033978376:True:=trivial
theorem tw11438754451718796746:True:=trivial
theorem tw10030716974744295606:True:=trivial
theorem tw7931669310875421184:True:=trivial
theorem tw6710290865971625259:True:=trivial
theorem tw4606251923078906427:True:=trivial
theorem tw15418397885339123370:True:=trivial
theorem tw9430295586694457144:True:=trivial
theorem tw12852695437706397006:True:=trivial
theorem tw5423512059616752657:True:=trivial
theorem tw11159629290219625992:True:=trivial
theorem tw2114741574176038222:True:=trivial
theorem tw13833041022149534820:True:=trivial
theorem tw6417143509793966553:True:=trivial
theorem tw5091438008261841723:True:=trivial
theorem tw5541501326980182925:True:=trivial
theorem tw2678278892020729305:True:=trivial
theorem tw6104041357265137141:True:=trivial
theorem tw12152113079977628044:True:=trivial
theorem tw9659837863594462692:True:=trivial
theorem tw12229430515429205322:True:=trivial
theorem tw15624990480360510214:True:=trivial
theorem tw15890479662484850114:True:=trivial
theorem tw8643579653575717097:True:=trivial
theorem tw14511145395543727591:True:=trivial
theorem tw17351657050430095245:True:=trivial
theorem tw2863143109299577897:True:=trivial
theorem tw745647085201657697:True:=trivial
theorem tw13910307571646618030:True:=trivial
theorem tw7485181274767992347:True:=trivial
theorem tw708585356284964962:True:=trivial
theorem tw11855300944606483913:True:=trivial
theorem tw2036597856617958333:True:=trivial
theorem tw15159529742912721044:True:=trivial
theorem tw13387911900819490582:True:=trivial
theorem tw7699022505688862951:True:=trivial
theorem tw10842703597032508879:True:=trivial
theorem tw6288256202386118969:True:=trivial
theorem tw17098222497008179684:True:=trivial
theorem tw11952022649722638202:True:=trivial
theorem tw4343093337665215064:True:=trivial
theorem tw17954099267305971327:True:=trivial
theorem tw12918720748722580678:True:=trivial
theorem tw687281925620203871:True:=trivial
theorem tw9339372747207793489:True:=trivial
theorem tw7329960650278777631:True:=trivial
theorem tw14179726610750686356:True:=trivial
theorem tw10404344364142524994:True:=trivial
theorem tw15108812421359260448:True:=trivial
theorem tw12078777253347677364:True:=trivial
theorem tw15342792104089275780:True:=trivial
theorem tw17102470355455885019:True:=trivial
theorem tw15943777752793114364:True:=trivial
theorem tw7363376408502396045:True:=trivial
theorem tw7221160978632051446:True:=trivial
theorem tw12314335904378252656:True:=trivial
theorem tw5607154532538044101:True:=trivial
theorem tw17555295206319046755:True:=trivial
theorem tw4037722527272984754:True:=trivial
theorem tw233529681694965924:True:=trivial
theorem tw7332416445489252815:True:=trivial
theorem tw12882289665339858804:True:=trivial
theorem tw2318487807533675624:True:=trivial
theorem tw5514331240744749000:True:=trivial
theorem tw9904870878142578430:True:=trivial
theorem tw1752444130804006454:True:=trivial
theorem tw15646657126008442213:True:=trivial
theorem tw1285000225063686777:True:=trivial
theorem tw1329074014683877184:True:=trivial
theorem tw16359207856446735731:True:=trivial
theorem tw11301863236750813158:True:=trivial
theorem tw14878184079399429451:True:=trivial
theorem tw11566281981836827313:True:=trivial
theorem tw8245915940373489631:True:=trivial
theorem tw15990353263894945501:True:=trivial
theorem tw2018728387530012636:True:=trivial
theorem tw7567639224181849457:True:=trivial
theorem tw14057712497410060126:True:=trivial
theorem tw18303555971886140796:True:=trivial
theorem tw15646826989483901010:True:=trivial
theorem tw17807832255740507316:True:=trivial
theorem tw8924773230492763468:True:=trivial
theorem tw9599843490996373209:True:=trivial
theorem tw13489053245085016300:True:=trivial
theorem tw999255535774170939:True:=trivial
theorem tw14777020597602865076:True:=trivial
theorem tw7994357471435287785:True:=trivial
theorem tw5996541697841191599:True:=trivial
theorem tw3200373087168252718:True:=trivial
theorem tw5422608633216190647:True:=trivial
theorem tw2599981894679398049:True:=trivial
theorem tw12729348585255515013:True:=trivial
theorem tw8180764122511759811:True:=trivial
theorem tw1327253853734722585:True:=trivial
theorem tw9516306540550562350:True:=trivial
theorem tw7475994278483981805:True:=trivial
theorem tw16447177228316862948:True:=trivial
theorem tw12829853887251601349:True:=trivial
theorem tw3638636095615254398:True:=trivial
theorem tw10443671936849820426:True:=trivial
theorem tw16396896704523853550:True:=trivial
theorem tw16173802282897088269:True:=trivial
theorem tw9683465493588177208:True:=trivial
theorem tw14620887441313193491:True:=trivial
theorem tw3781495374713560874:True:=trivial
theorem tw12016923564267909184:True:=trivial
theorem tw1396983974681263092:True:=trivial
theorem tw16543669516546938184:True:=trivial
theorem tw7828560641926489490:True:=trivial
theorem tw6979189688978466783:True:=trivial
theorem tw7486306651886044692:True:=trivial
theorem tw8449573912826671442:True:=trivial
theorem tw1073092677178362415:True:=trivial
theorem tw15733474715649719954:True:=trivial
theorem tw13383767892510522673:True:=trivial
theorem tw12280429739503681808:True:=trivial
theorem tw12868795971259844604:True:=trivial
theorem tw7461703519195178374:True:=trivial
theorem tw4658447132866792965:True:=trivial
theorem tw16215710914453437496:True:=trivial
theorem tw6626411389604293135:True:=trivial
theorem tw4102464181324528898:True:=trivial
theorem tw18249370197168535003:True:=trivial
theorem tw9370252817620807070:True:=trivial
theorem tw6822218844178545912:True:=trivial
theorem tw7031337760732792701:True:=trivial
theorem tw2660361124979544025:True:=trivial
theorem tw798907231931494645:True:=trivial
theorem tw5609670405571488577:True:=trivial
theorem tw6800887322917982942:True:=trivial
theorem tw9957867249978186552:True:=trivial
theorem tw3254100797353806915:True:=trivial
theorem tw14010435831747632364:True:=trivial
theorem tw6585430871817132804:True:=trivial
theorem tw9393753844976953287:True:=trivial
theorem tw7073533737216455386:True:=trivial
theorem tw13377517673237271357:True:=trivial
theorem tw1182166563235267057:True:=trivial
theorem tw17361071780463542646:True:=trivial
theorem tw9164895058699093080:True:=trivial
theorem tw15315055651995690653:True:=trivial
theorem tw12709539632303169178:True:=trivial
theorem tw15762740561970883608:True:=trivial
theorem tw16479271210232415324:True:=trivial
theorem tw8179752160592422666:True:=trivial
theorem tw4412449328115806968:True:=trivial
theorem tw1130049608264854951:True:=trivial
theorem tw13061119512690805324:True:=trivial
theorem tw148228896816009656:True:=trivial
theorem tw8864319888278168110:True:=trivial
theorem tw11752531053380985465:True:=trivial
theorem tw9316615705363530970:True:=trivial
theorem tw13719438700057924668:True:=trivial
theorem tw7987681993096678241:True:=trivial
theorem tw17291948855262445032:True:=trivial
theorem tw8765582852414884789:True:=trivial
theorem tw10248482183860437782:True:=trivial
theorem tw15518972437482349994:True:=trivial
theorem tw12688906583118704713:True:=trivial
theorem tw9413060429726025105:True:=trivial
theorem tw16263379889165710400:True:=trivial
theorem tw7299155894297730328:True:=trivial
theorem tw11707691070074097948:True:=trivial
theorem tw13797548187436108105:True:=trivial
theorem tw14447742374929527329:True:=trivial
theorem tw10391565092256999723:True:=trivial
theorem tw4008616921241106696:True:=trivial
theorem tw18230841075930417035:True:=trivial
theorem tw11708921249048030619:True:=trivial
theorem tw16174888558071290940:True:=trivial
theorem tw8742753575428832919:True:=trivial
theorem tw7922271007166763455:True:=trivial
theorem tw14412981887073723875:True:=trivial
theorem tw2819748186841354640:True:=trivial
theorem tw5666784546158075524:True:=trivial
theorem tw807470202177756065:True:=trivial
theorem tw15108311419034943375:True:=trivial
theorem tw6731914976655871876:True:=trivial
theorem tw18179080399499917469:True:=trivial
theorem tw2879716821585308502:True:=trivial
theorem tw4435353761096929602:True:=trivial
theorem tw17062529874081458975:True:=trivial
theorem tw9807960807562136145:True:=trivial
theorem tw8223675796811648886:True:=trivial
theorem tw3135849167918420562:True:=trivial
theorem tw17133625485191250641:True:=trivial
theorem tw12493166366255212876:True:=trivial
theorem tw5595467709292441114:True:=trivial
theorem tw8811890085844135587:True:=trivial
theorem tw15936381439483344273:True:=trivial
theorem tw14583164706181493198:True:=trivial
theorem tw1194647240208794574:True:=trivial
theorem tw17775537799446787786:True:=trivial
theorem tw14155739087371891055:True:=trivial
theorem tw9047706341972665131:True:=trivial
theorem tw6428246987191406261:True:=trivial
theorem tw4288996616641115892:True:=trivial
theorem tw2260411248188438522:True:=trivial
theorem tw16657665204158654071:True:=trivial
theorem tw8913596612965912970:True:=trivial
theorem tw9982330839051688591:True:=trivial
theorem tw16656061700625388166:True:=trivial
theorem tw17833224797220378119:True:=trivial
theorem tw8971025374708480216:True:=trivial
theorem tw7317966876069343308:True:=trivial
theorem tw958642747826447096:True:=trivial
theorem tw1513624180611743050:True:=trivial
theorem tw9622051185569195934:True:=trivial
theorem tw7898115487872408108:True:=trivial
theorem tw784717335127288531:True:=trivial
theorem tw12033131033736065261:True:=trivial
theorem tw15975183269785004631:True:=trivial
theorem tw13184811693067222125:True:=trivial
theorem tw15362628545329122167:True:=trivial
theorem tw295178543944528037:True:=trivial
theorem tw5070479511756067522:True:=trivial
theorem tw4022347284240722107:True:=trivial
theorem tw11224032906821683209:True:=trivial
theorem tw4739161717030580737:True:=trivial
theorem tw2716728109024106469:True:=trivial
theorem tw11398686588884971831:True:=trivial
theorem tw15999611979822264603:True:=trivial
theorem tw10389372180535163194:True:=trivial
theorem tw12624382660200193848:True:=trivial
theorem tw8613689032423177372:True:=trivial
theorem tw15122750598044068516:True:=trivial
theorem tw1440074649909127808:True:=trivial
theorem tw12322708786757730962:True:=trivial
theorem tw17472429692058081603:True:=trivial
theorem tw11991827683341086031:True:=trivial
theorem tw13603483727912152306:True:=trivial
theorem tw727138546892934378:True:=trivial
theorem tw4234984366803658259:True:=trivial
theorem tw12813516937403984111:True:=trivial
theorem tw13823575461112459171:True:=trivial
theorem tw17957748958771040958:True:=trivial
theorem tw4210906270117622455:True:=trivial
theorem tw6615907290138573861:True:=trivial
theorem tw2088660158050289917:True:=trivial
theorem tw14177281960069881426:True:=trivial
theorem tw18104878190356443842:True:=trivial
theorem tw14980542058286032417:True:=trivial
theorem tw12944269429294863015:True:=trivial
theorem tw2679146348569777575:True:=trivial
theorem tw1136802696182213626:True:=trivial
theorem tw12637854919199744576:True:=trivial
theorem tw3981701725234839678:True:=trivial
theorem tw11598937256417011883:True:=trivial
theorem tw15232363208290928953:True:=trivial
theorem tw15428731689066327287:True:=trivial
theorem tw9893258124260614457:True:=trivial
theorem tw10543365820436793066:True:=trivial
theorem tw4536375415370048088:True:=trivial
theorem tw4298267946110893224:True:=trivial
theorem tw17177565004075899014:True:=trivial
theorem tw3407614867820941763:True:=trivial
theorem tw2446796190022843569:True:=trivial
theorem tw7743871684899402729:True:=trivial
theorem tw1900932069446191476:True:=trivial
theorem tw10383841777405998654:True:=trivial
theorem tw18019057035883152747:True:=trivial
theorem tw12766904371179502197:True:=trivial
theorem tw1490025336494722938:True:=trivial
theorem tw17247327579533810233:True:=trivial
theorem tw17757813934241062451:True:=trivial
theorem tw12378902796192301624:True:=trivial
theorem tw1716023717178105930:True:=trivial
theorem tw17065379702485615887:True:=trivial
theorem tw6526928782625341359:True:=trivial
theorem tw16853893168200357991:True:=trivial
theorem tw9669127134535245667:True:=trivial
theorem tw9505215803523194799:True:=trivial
theorem tw882592109450896586:True:=trivial
theorem tw12659448049616762255:True:=trivial
theorem tw16704177789307248414:True:=trivial
theorem tw16170509124885510836:True:=trivial
theorem tw12424696376249833341:True:=trivial
theorem tw3528141094038525114:True:=trivial
theorem tw11201898885494250309:True:=trivial
theorem tw3905460481208990555:True:=trivial
theorem tw16715772277444184483:True:=trivial
theorem tw4081187419424752847:True:=trivial
theorem tw15955267502208511004:True:=trivial
theorem tw15763595255540435399:True:=trivial
theorem tw5305457693044409293:True:=trivial
theorem tw6949165939544479182:True:=trivial
theorem tw15647630199652235235:True:=trivial
theorem tw17864127880514910853:True:=trivial
theorem tw8143379434906938826:True:=trivial
theorem tw524861134236433791:True:=trivial
theorem tw12292160750982730445:True:=trivial
theorem tw7476060696048911758:True:=trivial
theorem tw16901657702870005065:True:=trivial
theorem tw1807536405648677835:True:=trivial
theorem tw18331290457202013055:True:=trivial
theorem tw2108117955628309210:True:=trivial
theorem tw18041353904943622826:True:=trivial
theorem tw12488180847173979321:True:=trivial
theorem tw3449867188449388370:True:=trivial
theorem tw876325475594663190:True:=trivial
theorem tw3130337920231948876:True:=trivial
theorem tw1411584342518068466:True:=trivial
theorem tw6691749810357198206:True:=trivial
theorem tw10380658443322120929:True:=trivial
theorem tw6735678103670209398:True:=trivial
theorem tw9176177774579567610:True:=trivial
theorem tw10272716894624652935:True:=trivial
theorem tw5746635934742450609:True:=trivial
theorem tw4659775674023988782:True:=trivial
theorem tw15792999403877787028:True:=trivial
theorem tw12431767752904670290:True:=trivial
theorem tw10861636223000799789:True:=trivial
theorem tw5442963505191433745:True:=trivial
theorem tw9744277492702622420:True:=trivial
theorem tw8064864250981743482:True:=trivial
theorem tw2476358721384602977:True:=trivial
theorem tw2575712756703701629:True:=trivial
theorem tw16122115011373325656:True:=trivial
theorem tw2311344888345762943:True:=trivial
theorem tw9084565732312150935:True:=trivial
theorem tw15988911817896143540:True:=trivial
theorem tw5148593096476603805:True:=trivial
theorem tw4343552682889455064:True:=trivial
theorem tw3513244938838703981:True:=trivial
theorem tw11245358360583306147:True:=trivial
theorem tw6166486444788076667:True:=trivial
theorem tw8092438171418175003:True:=trivial
theorem tw16664635331224172815:True:=trivial
theorem tw7783783127392686972:True:=trivial
theorem tw16751800398012734496:True:=trivial
theorem tw375885398350704750:True:=trivial
theorem tw7399637456003536143:True:=trivial
theorem tw14253257355842591263:True:=trivial
theorem tw12178897184397427123:True:=trivial
theorem tw16104660596291946240:True:=trivial
theorem tw314463988845428679:True:=trivial
theorem tw4060576865062094615:True:=trivial
theorem tw16256604406663780589:True:=trivial
theorem tw13283789468796295018:True:=trivial
theorem tw7836730255322549170:True:=trivial
theorem tw18167284987066099835:True:=trivial
theorem tw7776675321228790420:True:=trivial
theorem tw2681788277280185609:True:=trivial
theorem tw7738643839474889237:True:=trivial
theorem tw9900420786895662746:True:=trivial
theorem tw8315576539365654787:True:=trivial
theorem tw3528576993357363286:True:=trivial
theorem tw15335912238458091578:True:=trivial
theorem tw2060077485985079472:True:=trivial
theorem tw17553050008298909755:True:=trivial
theorem tw82313395479828568:True:=trivial
theorem tw12643972304522889319:True:=trivial
theorem tw1526024126007652855:True:=trivial
theorem tw3235158360332608707:True:=trivial
theorem tw3747243931414917359:True:=trivial
theorem tw2506283894920913292:True:=trivial
theorem tw8147851088223304195:True:=trivial
theorem tw18277176567015346209:True:=trivial
theorem tw9009943832708880019:True:=trivial
theorem tw15132046911896695111:True:=trivial
theorem tw12718742230614390159:True:=trivial
theorem tw1080219416046185533:True:=trivial
theorem tw112637442090402232:True:=trivial
theorem tw9924661502467470694:True:=trivial
theorem tw4002276003875348140:True:=trivial
theorem tw1359709693756794599:True:=trivial
theorem tw11504229919553381215:True:=trivial
theorem tw10387922198131597748:True:=trivial
theorem tw2232659005004607937:True:=trivial
theorem tw9123522402599423615:True:=trivial
theorem tw7852988936944257948:True:=trivial
theorem tw2786437350809187639:True:=trivial
theorem tw7007089000476313157:True:=trivial
theorem tw10515930046923850475:True:=trivial
theorem tw6074860575916343261:True:=trivial
theorem tw5489552056616470933:True:=trivial
theorem tw15899933411504232197:True:=trivial
theorem tw12938442531957250100:True:=trivial
theorem tw18230155028935414400:True:=trivial
theorem tw4239332116113247534:True:=trivial
theorem tw12962527817369511250:True:=trivial
theorem tw14926018688958533064:True:=trivial
theorem tw7452112696792489653:True:=trivial
theorem tw10617240156372166449:True:=trivial
theorem tw14170904150140237038:True:=trivial
theorem tw13400338359502727025:True:=trivial
theorem tw13204234124504952951:True:=trivial
theorem tw17305262684030519100:True:=trivial
theorem tw16016192254001938375:True:=trivial
theorem tw10935742103970655469:True:=trivial
theorem tw7493594850195039838:True:=trivial
theorem tw3772339601242775705:True:=trivial
theorem tw150399367727052144:True:=trivial
theorem tw13882424057777964036:True:=trivial
theorem tw8225871811179206472:True:=trivial
theorem tw662226090770172070:True:=trivial
theorem tw10186986999699250026:True:=trivial
theorem tw7049988997963017209:True:=trivial
theorem tw3652958598275382212:True:=trivial
theorem tw883033177699437116:True:=trivial
theorem tw104223520281290738:True:=trivial
theorem tw16430357305536139415:True:=trivial
theorem tw18250037902218156475:True:=trivial
theorem tw10211559709088191001:True:=trivial
theorem tw7254055716324376126:True:=trivial
theorem tw7557801430218869536:True:=trivial
theorem tw8303169313883163948:True:=trivial
theorem tw17949980301416235711:True:=trivial
theorem tw359431589187263777:True:=trivial
theorem tw6129862527124484150:True:=trivial
theorem tw16218215960054364320:True:=trivial
theorem tw16313049459775919150:True:=trivial
theorem tw12644391700948285545:True:=trivial
theorem tw16128440959428936464:True:=trivial
theorem tw11727625250120120209:True:=trivial
theorem tw730531555844817633:True:=trivial
theorem tw10096796039414246393:True:=trivial
theorem tw10861692673256637659:True:=trivial
theorem tw6944707873721252028:True:=trivial
theorem tw11534925097068690979:True:=trivial
theorem tw4799980638094842234:True:=trivial
theorem tw16530810945858325520:True:=trivial
theorem tw4974139229416611651:True:=trivial
theorem tw13973674393646212654:True:=trivial
theorem tw1707280859714500384:True:=trivial
theorem tw8628063189306902512:True:=trivial
theorem tw11554796104275779497:True:=trivial
theorem tw16039599999744133993:True:=trivial
theorem tw13504966254839658026:True:=trivial
theorem tw17880284899966822277:True:=trivial
theorem tw5731990152494166626:True:=trivial
theorem tw4045929949477251800:True:=trivial
theorem tw12000500528070692550:True:=trivial
theorem tw17053989650213609626:True:=trivial
theorem tw15250438355093713562:True:=trivial
theorem tw9427008809794325982:True:=trivial
theorem tw7367552921745515161:True:=trivial
theorem tw6004965356261143690:True:=trivial
theorem tw2002230808539815055:True:=trivial
theorem tw6125237478613180743:True:=trivial
theorem tw7661476718853026164:True:=trivial
theorem tw11622833272578002413:True:=trivial
theorem tw5471537265331191626:True:=trivial
theorem tw1363876760435226223:True:=trivial
theorem tw11044440402265211970:True:=trivial
theorem tw9544443409286766275:True:=trivial
theorem tw10664141093056908442:True:=trivial
theorem tw14560988233335077043:True:=trivial
theorem tw4917911693427519710:True:=trivial
theorem tw3322729480845368128:True:=trivial
theorem tw1840038471711126774:True:=trivial
theorem tw10204657046554141192:True:=trivial
theorem tw601646196113149172:True:=trivial
theorem tw15055068878331468363:True:=trivial
theorem tw17024444194201510768:True:=trivial
theorem tw2530129949868245550:True:=trivial
theorem tw9674646837027017903:True:=trivial
theorem tw7460583740729749149:True:=trivial
theorem tw14743148442562423823:True:=trivial
theorem tw11500040740932794784:True:=trivial
theorem tw3481188543512206680:True:=trivial
theorem tw4423985721247735642:True:=trivial
theorem tw7188540899814093820:True:=trivial
theorem tw288349172906891451:True:=trivial
theorem tw6928923194285649767:True:=trivial
theorem tw12205001185120835331:True:=trivial
theorem tw9840223896480908035:True:=trivial
theorem tw10856510879172186470:True:=trivial
theorem tw11299432318999262678:True:=trivial
theorem tw11516239528447020549:True:=trivial
theorem tw12706204341730755155:True:=trivial
theorem tw1802917858928356815:True:=trivial
theorem tw10219390261387226825:True:=trivial
theorem tw8648082251068010435:True:=trivial
theorem tw2388432238524379898:True:=trivial
theorem tw5554754820008526620:True:=trivial
theorem tw13352338034836905014:True:=trivial
theorem tw1884578292782373685:True:=trivial
theorem tw1103203072003317225:True:=trivial
theorem tw2034388246298977754:True:=trivial
theorem tw8712414508195000927:True:=trivial
theorem tw238301204243764446:True:=trivial
theorem tw16593503609041966924:True:=trivial
theorem tw6598479046745091281:True:=trivial
theorem tw15640642192711747519:True:=trivial
theorem tw4383809091186109354:True:=trivial
theorem tw12448813825977574179:True:=trivial
theorem tw3906795102039188742:True:=trivial
theorem tw15775331264131960517:True:=trivial
theorem tw12197390944222781410:True:=trivial
theorem tw5378798298907035659:True:=trivial
theorem tw2425541592800790572:True:=trivial
theorem tw3237140876376152188:True:=trivial
theorem tw16088561212495039664:True:=trivial
theorem tw10143094777988254979:True:=trivial
theorem tw1146294931106571884:True:=trivial
theorem tw14243759014874095385:True:=trivial
theorem tw13962120693805860919:True:=trivial
theorem tw8602325431506854118:True:=trivial
theorem tw8897642017698618921:True:=trivial
theorem tw13461741522139998374:True:=trivial
theorem tw15155160489529560550:True:=trivial
theorem tw2986912069061398674:True:=trivial
theorem tw298353060654885352:True:=trivial
theorem tw1241229015629435432:True:=trivial
theorem tw15235706502578674613:True:=trivial
theorem tw12033742264614510548:True:=trivial
theorem tw16355551333688102463:True:=trivial
theorem tw5032975995883497831:True:=trivial
theorem tw4484290938912173779:True:=trivial
theorem tw360257020897103160:True:=trivial
theorem tw4349612944438826759:True:=trivial
theorem tw10194058829633979161:True:=trivial
theorem tw10666354005073564955:True:=trivial
theorem tw15021590948041259318:True:=trivial
theorem tw18030046808357544775:True:=trivial
theorem tw3849422728993730734:True:=trivial
theorem tw3282845664031597762:True:=trivial
theorem tw15293904246057329785:True:=trivial
theorem tw17962857228228173109:True:=trivial
theorem tw7315555187524011076:True:=trivial
theorem tw13003121350542285225:True:=trivial
theorem tw9589432486779554106:True:=trivial
theorem tw13410627914492241827:True:=trivial
theorem tw2880167821022277434:True:=trivial
theorem tw6768016287349158184:True:=trivial
theorem tw17582273834467164756:True:=trivial
theorem tw2239569719710502027:True:=trivial
theorem tw1694186108998258776:True:=trivial
theorem tw16851994727189373777:True:=trivial
theorem tw5903854571801967867:True:=trivial
theorem tw7288726514156392766:True:=trivial
theorem tw1986629904190355144:True:=trivial
theorem tw1988878970269814200:True:=trivial
theorem tw12715338369609457994:True:=trivial
theorem tw15700752175727791671:True:=trivial
theorem tw11056852339616531483:True:=trivial
theorem tw10622915556188936062:True:=trivial
theorem tw417348579728083290:True:=trivial
theorem tw490740283464759166:True:=trivial
theorem tw15396118499895871791:True:=trivial
theorem tw9836811546028517775:True:=trivial
theorem tw3853921240831617038:True:=trivial
theorem tw7755079324024054844:True:=trivial
theorem tw1407544378821657949:True:=trivial
theorem tw2979931913968081151:True:=trivial
theorem tw6016244611951874279:True:=trivial
theorem tw2692251424740536761:True:=trivial
theorem tw6323902279569795800:True:=trivial
theorem tw8479882885210745251:True:=trivial
theorem tw12451575371465336982:True:=trivial
theorem tw9458638420216296203:True:=trivial
theorem tw13276184693614885632:True:=trivial
theorem tw18178578557837364950:True:=trivial
theorem tw16595957059076183833:True:=trivial
theorem tw6233009419259384169:True:=trivial
theorem tw10270409042748909037:True:=trivial
theorem tw5939038214552217726:True:=trivial
theorem tw14415801609519233306:True:=trivial
theorem tw12791459143841678069:True:=trivial
theorem tw7216103445680622334:True:=trivial
theorem tw3784679616083153261:True:=trivial
theorem tw5773054189896833571:True:=trivial
theorem tw12598528546290353989:True:=trivial
theorem tw17153674859101119452:True:=trivial
theorem tw10105666454148894493:True:=trivial
theorem tw5776999325553078960:True:=trivial
theorem tw14782601877698496911:True:=trivial
theorem tw4835066367498494212:True:=trivial
theorem tw17776804323664265487:True:=trivial
theorem tw15252315763342073878:True:=trivial
theorem tw15635319372230589579:True:=trivial
theorem tw13632938910881214169:True:=trivial
theorem tw1261542815068719115:True:=trivial
theorem tw15085903072436514343:True:=trivial
theorem tw17992507805641903971:True:=trivial
theorem tw11753775434341557024:True:=trivial
theorem tw9680523768126870457:True:=trivial
theorem tw13142054630739337261:True:=trivial
theorem tw18441156442278392635:True:=trivial
theorem tw1649249152740991991:True:=trivial
theorem tw6644226022101342925:True:=trivial
theorem tw9380359120130987412:True:=trivial
theorem tw8092275098657744743:True:=trivial
theorem tw15212631358181081221:True:=trivial
theorem tw14377210657208018196:True:=trivial
theorem tw13273786541217516224:True:=trivial
theorem tw17497607830341059741:True:=trivial
theorem tw9957851237288182111:True:=trivial
theorem tw18090826188295107849:True:=trivial
theorem tw13376680339361170418:True:=trivial
theorem tw477647441244925808:True:=trivial
theorem tw192478241143011375:True:=trivial
theorem tw678379277116823293:True:=trivial
theorem tw65292166951867817:True:=trivial
theorem tw225009700690052590:True:=trivial
theorem tw13346395386980313700:True:=trivial
theorem tw4067657002715410242:True:=trivial
theorem tw6046220080084048344:True:=trivial
theorem tw2902872571935394690:True:=trivial
theorem tw8608158169902117385:True:=trivial
theorem tw15275872276150264849:True:=trivial
theorem tw16595003766803321423:True:=trivial
theorem tw12364494051633034271:True:=trivial
theorem tw6005509192559178016:True:=trivial
theorem tw14809419844145170980:True:=trivial
theorem tw12432901798307232725:True:=trivial
theorem tw1513111104152719531:True:=trivial
theorem tw1359002159499739142:True:=trivial
theorem tw15187557915254655343:True:=trivial
theorem tw856567394046699758:True:=trivial
theorem tw15311796979808942863:True:=trivial
theorem tw3685487140294843928:True:=trivial
theorem tw16741824856059932406:True:=trivial
theorem tw11022846763935355405:True:=trivial
theorem tw17312498724270319836:True:=trivial
theorem tw13158920191209321275:True:=trivial
theorem tw13367803682355020113:True:=trivial
theorem tw11438245325273689529:True:=trivial
theorem tw11782766038973979849:True:=trivial
theorem tw2985755731478580712:True:=trivial
theorem tw8205013116561841837:True:=trivial
theorem tw10906311679394561793:True:=trivial
theorem tw16503076990709719038:True:=trivial
theorem tw12871510945760958161:True:=trivial
theorem tw18385054136933586391:True:=trivial
theorem tw16354548553169291403:True:=trivial
theorem tw2083805229466135120:True:=trivial
theorem tw9830409603148738878:True:=trivial
theorem tw1728421743520161109:True:=trivial
theorem tw17519275304695629215:True:=trivial
theorem tw4630729070222658532:True:=trivial
theorem tw1698830493694185769:True:=trivial
theorem tw9145629905352799030:True:=trivial
theorem tw2173350959227568695:True:=trivial
theorem tw2191155246318435716:True:=trivial
theorem tw14067374509379221352:True:=trivial
theorem tw5469025462738316218:True:=trivial
theorem tw11116254194434577940:True:=trivial
theorem tw2637762028309449110:True:=trivial
theorem tw3662865551168811524:True:=trivial
theorem tw6399793209620138804:True:=trivial
theorem tw10486780260487925402:True:=trivial
theorem tw16120750736474605777:True:=trivial
theorem tw11671290342386185899:True:=trivial
theorem tw15405638354868263758:True:=trivial
theorem tw5696999537378896744:True:=trivial
theorem tw7234328797279820128:True:=trivial
theorem tw2345889902145860417:True:=trivial
theorem tw12115031743115424268:True:=trivial
theorem tw2321973086075249661:True:=trivial
theorem tw3740356103901512417:True:=trivial
theorem tw5707953287940384517:True:=trivial
theorem tw4889145289044376125:True:=trivial
theorem tw4141564907900297152:True:=trivial
theorem tw15429739416977469006:True:=trivial
theorem tw5591691110607435164:True:=trivial
theorem tw14676474185825233914:True:=trivial
theorem tw13956699676960631372:True:=trivial
theorem tw1208582182589286728:True:=trivial
theorem tw5563406482774107442:True:=trivial
theorem tw13766341096205466365:True:=trivial
theorem tw13065360168706637817:True:=trivial
theorem tw14481157388472277322:True:=trivial
theorem tw11159622384547682730:True:=trivial
theorem tw7499498265694323308:True:=trivial
theorem tw1311163375587574053:True:=trivial
theorem tw14093779610605450281:True:=trivial
theorem tw11078243719613975893:True:=trivial
theorem tw15148179706435366435:True:=trivial
theorem tw6503968430831760663:True:=trivial
theorem tw10169728645606496789:True:=trivial
theorem tw3188254411535131302:True:=trivial
theorem tw7272392307733895525:True:=trivial
theorem tw6239576946150335737:True:=trivial
theorem tw6512850402945140871:True:=trivial
theorem tw12870738032232686255:True:=trivial
theorem tw16493038336231892291:True:=trivial
theorem tw381056626789755517:True:=trivial
theorem tw16507923270952072102:True:=trivial
theorem tw10896348926139735342:True:=trivial
theorem tw12862090844501755627:True:=trivial
theorem tw14644047993760045179:True:=trivial
theorem tw17079873550790999904:True:=trivial
theorem tw3490298267986199332:True:=trivial
theorem tw5021207468460110871:True:=trivial
theorem tw15065468350327898965:True:=trivial
theorem tw14017671091533611360:True:=trivial
theorem tw13638145167897918970:True:=trivial
theorem tw15832919060567138853:True:=trivial
theorem tw11365203039294378693:True:=trivial
theorem tw7213125877838764829:True:=trivial
theorem tw16670591352331634706:True:=trivial
theorem tw13902222081988562001:True:=trivial
theorem tw12148214401506214639:True:=trivial
theorem tw18168591706096394333:True:=trivial
theorem tw5365063729198376870:True:=trivial
theorem tw3443939255855242538:True:=trivial
theorem tw6195394332885845139:True:=trivial
theorem tw13627005625883320809:True:=trivial
theorem tw11799829767259197917:True:=trivial
theorem tw1324390687252827210:True:=trivial
theorem tw11893130931985844365:True:=trivial
theorem tw1058651629806985909:True:=trivial
theorem tw12568249864306474789:True:=trivial
theorem tw15150356990644875454:True:=trivial
theorem tw706859387367497018:True:=trivial
theorem tw13764542078532707882:True:=trivial
theorem tw8972482543455923120:True:=trivial
theorem tw13939073250212523556:True:=trivial
theorem tw12713524901120021159:True:=trivial
theorem tw13188965050786842566:True:=trivial
theorem tw13373332062540103670:True:=trivial
theorem tw14431964401418377989:True:=trivial
theorem tw9817433523472755679:True:=trivial
theorem tw1323233831643480577:True:=trivial
theorem tw18421944191635443364:True:=trivial
theorem tw7551191851153654016:True:=trivial
theorem tw666203332780929099:True:=trivial
theorem tw11647062052169380133:True:=trivial
theorem tw2143055965695030608:True:=trivial
theorem tw16094366552397311297:True:=trivial
theorem tw4617830161688283392:True:=trivial
theorem tw3584877882947486303:True:=trivial
theorem tw3191131065896967159:True:=trivial
theorem tw2497899408239501924:True:=trivial
theorem tw12856519072812571011:True:=trivial
theorem tw255518339021385455:True:=trivial
theorem tw12734631295751308328:True:=trivial
theorem tw16939180546113727871:True:=trivial
theorem tw788310215436258014:True:=trivial
theorem tw12209130135134144229:True:=trivial
theorem tw17327448187903544132:True:=trivial
theorem tw12508927750577962370:True:=trivial
theorem tw12760707458660308125:True:=trivial
theorem tw5956715116547265389:True:=trivial
theorem tw2735250887281469573:True:=trivial
theorem tw18354175095266320332:True:=trivial
theorem tw9961541006328391191:True:=trivial
theorem tw2962250163932302069:True:=trivial
theorem tw17201387224447928944:True:=trivial
theorem tw3920671944343074484:True:=trivial
theorem tw9181717111094188198:True:=trivial
theorem tw4066364569567052367:True:=trivial
theorem tw3854491047241691466:True:=trivial
theorem tw2309332126822330728:True:=trivial
theorem tw3864691185609127138:True:=trivial
theorem tw1384958140007415078:True:=trivial
theorem tw583272952007903388:True:=trivial
theorem tw4787823067508908804:True:=trivial
theorem tw2153584988665324067:True:=trivial
theorem tw5679558058113383202:True:=trivial
theorem tw3470483162031930426:True:=trivial
theorem tw17408722398753918045:True:=trivial
theorem tw17622547380258212174:True:=trivial
theorem tw2693975895981077064:True:=trivial
theorem tw572327369942080706:True:=trivial
theorem tw1503798308692642619:True:=trivial
theorem tw70252001881381633:True:=trivial
theorem tw13504566389189364184:True:=trivial
theorem tw16652156303524875865:True:=trivial
theorem tw11804177599136582627:True:=trivial
theorem tw16909276789819451272:True:=trivial
theorem tw11639718705526160904:True:=trivial
theorem tw17872065419180422103:True:=trivial
theorem tw7229085641645401439:True:=trivial
theorem tw10159444751069373803:True:=trivial
theorem tw4726839704718738999:True:=trivial
theorem tw15776644011585298248:True:=trivial
theorem tw11017467198477882564:True:=trivial
theorem tw13759833000511065134:True:=trivial
theorem tw14328485865612233913:True:=trivial
theorem tw7685598848700399:True:=trivial
theorem tw15443258755587260445:True:=trivial
theorem tw5070579407524840673:True:=trivial
theorem tw1660825413482290816:True:=trivial
theorem tw16154548576830368170:True:=trivial
theorem tw13814930023647850389:True:=trivial
theorem tw18025832490366707333:True:=trivial
theorem tw13868971288344369912:True:=trivial
theorem tw15422597457117764416:True:=trivial
theorem tw7871812757337344953:True:=trivial
theorem tw2069397393227918549:True:=trivial
theorem tw768625650998720890:True:=trivial
theorem tw8131816247030670225:True:=trivial
theorem tw18323288727880831521:True:=trivial
theorem tw12282353428351037044:True:=trivial
theorem tw13612396946414984679:True:=trivial
theorem tw13119463560023348432:True:=trivial
theorem tw11748924746294372878:True:=trivial
theorem tw16728725509491941352:True:=trivial
theorem tw12623786336571693633:True:=trivial
theorem tw1114969845092451951:True:=trivial
theorem tw2538161448627692960:True:=trivial
theorem tw2724420562923073986:True:=trivial
theorem tw16347835583699216313:True:=trivial
theorem tw5996003941060856849:True:=trivial
theorem tw9781603939949751314:True:=trivial
theorem tw10374720854815605950:True:=trivial
theorem tw16380618642362957251:True:=trivial
theorem tw5260120740896683698:True:=trivial
theorem tw10986010808715460473:True:=trivial
theorem tw221722793986616707:True:=trivial
theorem tw4944247051067902051:True:=trivial
theorem tw12171202683824007345:True:=trivial
theorem tw11440507243424718594:True:=trivial
theorem tw11702588892505675738:True:=trivial
theorem tw15830506678311372149:True:=trivial
theorem tw2897777243253096975:True:=trivial
theorem tw2540200320698904571:True:=trivial
theorem tw2321397122091131464:True:=trivial
theorem tw5532481411405140393:True:=trivial
theorem tw17799220881414371554:True:=trivial
theorem tw12806252628549706907:True:=trivial
theorem tw2229126529543130780:True:=trivial
theorem tw984018714629184508:True:=trivial
theorem tw1226101813021103867:True:=trivial
theorem tw5141773847910148363:True:=trivial
theorem tw2924071836315356687:True:=trivial
theorem tw7540675040918020576:True:=trivial
theorem tw6045778296754116542:True:=trivial
theorem tw8674276971823379725:True:=trivial
theorem tw10447272653985402795:True:=trivial
theorem tw13184036512991293026:True:=trivial
theorem tw1057643454570290472:True:=trivial
theorem tw16539577419010635759:True:=trivial
theorem tw7932015245990788388:True:=trivial
theorem tw4380226843776674031:True:=trivial
theorem tw17938396060939036274:True:=trivial
theorem tw9476504142014797295:True:=trivial
theorem tw3277465188591009704:True:=trivial
theorem tw8831134953951050506:True:=trivial
theorem tw11635360983853466881:True:=trivial
theorem tw12936403002131141878:True:=trivial
theorem tw7663473640488137296:True:=trivial
end PySem.W.Fast
open PySem PySem.W PyProof.Rows
set_option maxRecDepth 100000 in
set_option maxHeartbeats 0 in
theorem PySem.Challenge.cw_tenreckon_k13_whole_neighbours_holds : PySem.Challenge.rw_tenreckon_k13_whole_neighbours.Holds := by
 w_on; o_law; k_head; (case hw => w_witness2)
 k_fill
 refine TR.walk (l := PySem.Challenge.rw_tenreckon_k13_whole_neighbours) rfl rfl (fun w h Y => PySem.W.kIn_of Y) ?F
 case F =>
   intro w mg fa h KX G hmg
   refine' TR.all_mk KX G hmg ?ZA8m ?ZB1b ?ZB0n ?ZB0z ?ZD6q ?ZG0y ?ZD9e ?ZG0f ?ZC2w ?ZC4w ?ZC4e ?ZC2j ?ZD5q ?ZD3w ?ZD5c ?ZD8u ?ZD6z ?ZD7y ?ZD3g ?ZD4g ?ZV1f ?ZY2x ?ZV1m ?ZY0w ?ZJ3q ?ZJ3d ?ZJ5b ?ZJ1q ?ZJ0n ?ZJ2p ?ZJ3u ?ZJ2f ?ZD8y ?ZD5k ?ZD8r ?ZG0z ?ZV2c ?ZV9p ?ZY0r ?ZY0h ?ZB6u ?ZB7z ?ZB8v ?ZB7q ?ZB6v ?ZB6t ?ZB8a ?ZB9c ?ZC2v ?ZC5t ?ZC5w ?ZC4y ?ZB7y ?ZB6n ?ZB7k ?ZB7s ?ZB1e ?ZA8q ?ZA9s ?ZA9c ?ZC5k ?ZC3t ?ZC5d ?ZC5p ?ZC4b ?ZC6a ?ZC4k ?ZC6c ?ZD6r ?ZD4v ?ZD4z ?ZG1k ?ZG1n ?ZD3h ?ZG0e ?ZD9v ?ZB6c ?ZB6h ?ZB7g ?ZB6p ?ZB8k ?ZB8j ?ZB8y ?ZB8x ?ZC3b ?ZC2t ?ZC2k ?ZC3p ?ZB8m ?ZB7x ?ZB8q ?ZB7t ?ZG1g ?ZD5y ?ZD3z ?ZG0q ?ZB5z ?ZB6m ?ZB8p ?ZB7v ?ZD7z ?ZD4u ?ZD6y ?ZD6h ?ZG1b ?ZD6b ?ZG0k ?ZG0m ?ZJ4n ?ZG9g ?ZJ0c ?ZG9t ?ZD6v ?ZD6m ?ZD8k ?ZD8h ?ZC4j ?ZC5y ?ZC5r ?ZC5s ?ZD9u ?ZD9j ?ZD4h ?ZG1q ?ZC4c ?ZC3r ?ZC3k ?ZC3f ?ZJ3e ?ZJ4r ?ZJ3b ?ZJ2w ?ZC4r ?ZC5h ?ZC3z ?ZC4x ?ZJ4q ?ZJ0a ?ZJ5v ?ZG9w ?ZC3y ?ZC5v ?ZC6b ?ZC5j ?ZB3h ?ZB3r ?ZB4g ?ZB3p ?ZG0b ?ZG1s ?ZD4m ?ZD7c ?ZC2m ?ZC6e ?ZC4g ?ZC4z ?ZD7u ?ZD8m ?ZG0t ?ZD4c ?ZC2y ?ZC4q ?ZC3w ?ZC4d ?ZD9x ?ZD8n ?ZG1d ?ZG0u ?ZC6h ?ZC5x ?ZC3u ?ZC2s ?ZC3m ?ZC2n ?ZC2q ?ZC4n ?ZJ8j ?ZY3d ?ZV6w ?ZV1h ?ZA7s ?ZV8e ?ZJ0j ?ZV5u ?ZG9p ?ZD4a ?ZG9k ?ZV4q ?ZD6u ?ZV0t ?ZV4m ?ZV3r ?ZV4h ?ZY2k ?ZV8d ?ZG9y ?ZB0h ?ZB3f ?ZY2q ?ZC3v ?ZC6d ?ZV6q ?ZA6e ?ZB3j ?ZA9j ?ZB3u ?ZB0u ?ZA6b ?ZA9x ?ZA9y ?ZA6m ?ZA9z ?ZA7k ?ZA3w ?ZA7a ?ZB3g ?ZB0s ?ZB4h ?ZB0d ?ZA7h ?ZB0q ?ZA9v ?ZA5t ?ZB0b ?ZA7c ?ZA4a ?ZA6k ?ZA7g ?ZA3y ?ZA6v ?ZA4b ?ZA2s ?ZA3z ?ZA8v ?ZA5w ?ZA8p ?ZA7d ?ZA3x ?ZA5y ?ZA1g ?ZA0h ?ZA1f ?ZA0j ?ZZ1 ?ZA0g ?Zsn ?Ztk ?ZZ7z ?ZZ3p ?ZY3p ?ZV2n ?ZV3x ?ZV1s ?ZY1e ?ZY0t ?ZV9r ?ZV6y ?ZY1f ?ZV2q ?ZB6d ?ZB7e ?ZB6j ?ZB8f ?ZB1w ?ZZ4k ?ZV2j ?ZV4x ?ZY3u ?ZV1z ?ZV7e ?ZY3g ?ZV7t ?ZY2b ?ZY2y ?ZV2z ?ZB6x ?ZB6b ?ZB7h ?ZB8t ?ZB1x ?ZZ4j ?ZV4j ?ZV7p ?ZV2u ?ZV2b ?ZV9z ?ZV6v ?ZV5j ?ZV5s ?ZV9n ?ZV2w ?ZB7a ?ZB8c ?ZB6r ?ZB8g ?ZB1s ?ZZ2z ?ZV9x ?ZV6k ?ZV0k ?ZV2m ?ZV7m ?ZY0q ?ZV0z ?ZY2n ?ZV1t ?ZV9t ?ZB8w ?ZB6y ?ZB7f ?ZB6s ?ZB1v ?ZZ4h ?ZV7z ?ZV8a ?ZY0d ?ZY2v ?ZV7n ?ZV8s ?ZY0a ?ZV6x ?ZV3a ?ZV4v ?ZB8r ?ZB7w ?ZB7p ?ZB6k ?ZB1t ?ZZ3f ?ZV9q ?ZY3s ?ZV4g ?ZV1c ?ZV1p ?ZV4u ?ZV3e ?ZV2e ?ZV4d ?ZY1p ?ZB6a ?ZB9d ?ZB6q ?ZB7m ?ZB1y ?ZZ4f ?ZV9k ?ZV0h ?ZV8p ?ZY0s ?ZV2s ?ZV6r ?ZV6u ?ZV3y ?ZY2f ?ZV6t ?ZB7b ?ZB8u ?ZB6z ?ZB9a ?ZB1u ?ZZ2x ?ZV1j ?ZY1c ?ZV7k ?ZY1m ?ZV9a ?ZV6c ?ZY0m ?ZV5g ?ZV7s ?ZV3n ?ZB7n ?ZB7r ?ZB7c ?ZB8s ?ZB1q ?ZZ3e ?ZV6z ?ZV4f ?ZV9d ?ZV4c ?ZV3k ?ZV4b ?ZV5t ?ZV1n ?ZB8d ?ZB6g ?ZA5m ?ZB3t ?ZV7y ?ZY0p ?ZV1y ?ZV9b ?ZV8b ?ZD9y ?ZA5z ?ZA6j ?ZA5q ?ZA7q ?ZA1t ?ZA9h ?ZB1a ?ZB0v ?ZA8s ?ZA3s ?ZA6h ?ZA6g ?ZA7m ?ZA6x ?ZA1r ?ZA9p ?ZA9u ?ZA9t ?ZB0r ?ZA3q ?ZA7p ?ZA6t ?ZA5r ?ZA6c ?ZA1u ?ZA9q ?ZA9a ?ZB0j ?ZA9w ?ZA3m ?ZA5u ?ZA6d ?ZA5j ?ZA7r ?ZA1q ?ZB0e ?ZA8r ?ZA8t ?ZA8x ?ZA3k ?ZA7f ?ZA6p ?ZA6u ?ZA5n ?ZA1s ?ZB1d ?ZA9b ?ZB0x ?ZB0p ?ZA3j ?ZA7b ?ZA7j ?ZA6f ?ZA7e ?ZA1p ?ZA8w ?ZA8n ?ZA8z ?ZB1f ?ZA3r ?ZA6n ?ZA6r ?ZA5k ?ZA6z ?ZA1v ?ZB1c ?ZA9m ?ZA9k ?ZB0k ?ZA3n ?ZA5v ?ZA5s ?ZA6q ?ZA6y ?ZA1n ?ZB0y ?ZA8y ?ZA8u ?ZB0a ?ZA3p ?ZZ4c ?ZV2r ?ZY1g ?ZY1k ?ZV2p ?ZY0k ?ZV6s ?ZB7u ?ZB8e ?ZB4c ?ZB8n ?ZB4e ?ZA6s ?ZV0u ?ZY1j ?ZV3v ?ZY2d ?ZV1q ?ZV3f ?ZB3e ?ZB3k ?ZB4a ?ZB3w ?ZA7n ?ZB0c ?ZA9e ?ZA9n ?ZB0g ?ZA3g ?ZC5c ?ZC5e ?ZC3d ?ZC5f ?ZB5j ?ZB0m ?ZB0f ?ZA9f ?ZA9g ?ZA3h ?ZZ3r ?ZV1x ?ZV3j ?ZV0d ?ZV2f ?ZY2h ?ZV6b ?ZY2t ?ZY0z ?ZC6g ?ZB0w ?ZB3n ?ZV5r ?ZY0v ?ZV5a ?ZV5e ?ZV0j ?ZG5q ?ZB3z ?ZB3x ?ZB4d ?ZB3y ?ZA6w ?ZD9t ?ZD4e ?ZD6e ?ZD5p ?ZC0e ?ZY6r ?ZV6g ?ZZ2d ?ZZ3w ?ZZ3h ?ZZ8r ?Zcty ?Zccl ?Zcex ?Zsub3 ?Zxga3 ?Zxgh3 ?Zxca3 ?Zxob3 ?Zxbe3 ?Zxcl3 ?ZZ7y ?ZZ9b ?ZZ8y ?Zhv3 ?ZlT ?ZlN ?ZalN ?ZniT ?ZlT1 ?ZsaT ?Znsg3 ?ZY8d ?ZZ4g ?ZZ3q ?ZfcT ?ZkTR ?Zq1 ?Zq2 ?Za_S ?ZlS ?ZZ2y ?ZY3c ?ZV0w ?ZV0g ?ZV8y ?ZV3d ?ZV1e ?ZV0f ?ZV6n ?ZC4h ?ZB3v ?ZV7a ?ZV3t ?ZV2t ?ZV5y ?ZV9f ?ZG4z ?ZB3m ?ZB4b ?ZB3s ?ZB3q ?ZA5x ?ZD8a ?ZD8p ?ZG1p ?ZG0v ?ZC0g ?ZV0e
   case ZA8m | ZB1b | ZB0n | ZB0z | ZD6q | ZG0y | ZD9e | ZG0f | ZC2w | ZC4w | ZC4e | ZC2j | ZD5q | ZD3w | ZD5c | ZD8u | ZD6z | ZD7y | ZD3g | ZD4g | ZV1f | ZY2x | ZV1m | ZY0w | ZJ3q | ZJ3d | ZJ5b | ZJ1q | ZJ0n | ZJ2p | ZJ3u | ZJ2f | ZD8y | ZD5k | ZD8r | ZG0z | ZV2c | ZV9p | ZY0r | ZY0h | ZB6u | ZB7z | ZB8v | ZB7q | ZB6v | ZB6t | ZB8a | ZB9c | ZC2v | ZC5t | ZC5w | ZC4y | ZB7y | ZB6n | ZB7k | ZB7s | ZB1e | ZA8q | ZA9s | ZA9c => k_is
   case ZC5k | ZC3t | ZC5d | ZC5p | ZC4b | ZC6a | ZC4k | ZC6c | ZD6r | ZD4v | ZD4z | ZG1k | ZG1n | ZD3h | ZG0e | ZD9v | ZB6c | ZB6h | ZB7g | ZB6p | ZB8k | ZB8j | ZB8y | ZB8x | ZC3b | ZC2t | ZC2k | ZC3p | ZB8m | ZB7x | ZB8q | ZB7t | ZG1g | ZD5y | ZD3z | ZG0q | ZB5z | ZB6m | ZB8p | ZB7v | ZD7z | ZD4u | ZD6y | ZD6h | ZG1b | ZD6b | ZG0k | ZG0m | ZJ4n | ZG9g | ZJ0c | ZG9t | ZD6v | ZD6m | ZD8k | ZD8h | ZC4j | ZC5y | ZC5r | ZC5s => k_is
   case ZD9u | ZD9j | ZD4h | ZG1q | ZC4c | ZC3r | ZC3k | ZC3f | ZJ3e | ZJ4r | ZJ3b | ZJ2w | ZC4r | ZC5h | ZC3z | ZC4x | ZJ4q | ZJ0a | ZJ5v | ZG9w | ZC3y | ZC5v | ZC6b | ZC5j | ZB3h | ZB3r | ZB4g | ZB3p | ZG0b | ZG1s | ZD4m | ZD7c | ZC2m | ZC6e | ZC4g | ZC4z | ZD7u | ZD8m | ZG0t | ZD4c | ZC2y | ZC4q | ZC3w | ZC4d | ZD9x | ZD8n | ZG1d | ZG0u | ZC6h | ZC5x | ZC3u | ZC2s | ZC3m | ZC2n | ZC2q | ZC4n | ZJ8j | ZY3d | ZV6w | ZV1h => k_is
   case ZA7s | ZV8e | ZJ0j | ZV5u | ZG9p | ZD4a | ZG9k | ZV4q | ZD6u | ZV0t | ZV4m | ZV3r | ZV4h | ZY2k | ZV8d | ZG9y | ZB0h | ZB3f | ZY2q | ZC3v | ZC6d | ZV6q | ZA6e => k_is
   case ZB3j | ZA9j | ZB3u | ZB0u | ZA6b | ZA9x | ZA9y | ZA6m | ZA9z | ZA7k | ZA3w | ZA7a | ZB3g | ZB0s | ZB4h | ZB0d | ZA7h | ZB0q | ZA9v | ZA5t | ZB0b | ZA7c | ZA4a | ZA6k | ZA7g | ZA3y | ZA6v | ZA4b | ZA2s | ZA3z | ZA8v | ZA5w | ZA8p | ZA7d | ZA3x | ZA5y | ZA1g | ZA0h | ZA1f | ZA0j | ZZ1 | ZA0g => kit_is
   case Zsn | Ztk | ZZ7z | ZZ3p | ZY3p | ZV2n | ZV3x | ZV1s | ZY1e | ZY0t | ZV9r | ZV6y | ZY1f => k_is
   case ZV2q => kit_is
   case ZB6d | ZB7e | ZB6j | ZB8f | ZB1w | ZZ4k | ZV2j | ZV4x | ZY3u | ZV1z | ZV7e | ZY3g | ZV7t | ZY2b | ZY2y => k_is
   case ZV2z => kit_is
   case ZB6x | ZB6b | ZB7h | ZB8t | ZB1x | ZZ4j | ZV4j | ZV7p | ZV2u | ZV2b | ZV9z | ZV6v | ZV5j | ZV5s | ZV9n => k_is
   case ZV2w => kit_is
   case ZB7a | ZB8c | ZB6r | ZB8g | ZB1s | ZZ2z | ZV9x | ZV6k | ZV0k | ZV2m | ZV7m | ZY0q | ZV0z | ZY2n | ZV1t => k_is
   case ZV9t => kit_is
   case ZB8w | ZB6y | ZB7f | ZB6s | ZB1v | ZZ4h | ZV7z | ZV8a | ZY0d | ZY2v | ZV7n | ZV8s | ZY0a | ZV6x | ZV3a => k_is
   case ZV4v => kit_is
   case ZB8r | ZB7w | ZB7p | ZB6k | ZB1t | ZZ3f | ZV9q | ZY3s | ZV4g | ZV1c | ZV1p | ZV4u | ZV3e | ZV2e | ZV4d => k_is
   case ZY1p => kit_is
   case ZB6a | ZB9d | ZB6q | ZB7m | ZB1y | ZZ4f | ZV9k | ZV0h | ZV8p | ZY0s | ZV2s | ZV6r | ZV6u | ZV3y | ZY2f => k_is
   case ZV6t => kit_is
   case ZB7b | ZB8u | ZB6z | ZB9a | ZB1u | ZZ2x | ZV1j | ZY1c | ZV7k | ZY1m | ZV9a | ZV6c | ZY0m | ZV5g | ZV7s => k_is
   case ZV3n => kit_is
   case ZB7n | ZB7r | ZB7c | ZB8s | ZB1q | ZZ3e | ZV6z | ZV4f | ZV9d | ZV4c | ZV3k | ZV4b | ZV5t | ZV1n | ZB8d | ZB6g | ZA5m | ZB3t | ZV7y | ZY0p | ZV1y | ZV9b | ZV8b => k_is
   case ZD9y => kit_is
   case ZA5z | ZA6j | ZA5q | ZA7q | ZA1t | ZA9h | ZB1a | ZB0v | ZA8s | ZA3s | ZA6h | ZA6g | ZA7m | ZA6x | ZA1r | ZA9p | ZA9u | ZA9t | ZB0r | ZA3q | ZA7p | ZA6t | ZA5r | ZA6c | ZA1u | ZA9q | ZA9a | ZB0j | ZA9w | ZA3m | ZA5u | ZA6d | ZA5j | ZA7r | ZA1q | ZB0e | ZA8r | ZA8t | ZA8x | ZA3k | ZA7f | ZA6p | ZA6u | ZA5n | ZA1s | ZB1d | ZA9b | ZB0x | ZB0p | ZA3j | ZA7b | ZA7j | ZA6f | ZA7e | ZA1p | ZA8w | ZA8n | ZA8z | ZB1f | ZA3r => k_is
   case ZA6n | ZA6r | ZA5k | ZA6z | ZA1v | ZB1c | ZA9m | ZA9k | ZB0k | ZA3n | ZA5v | ZA5s | ZA6q | ZA6y | ZA1n | ZB0y | ZA8y | ZA8u | ZB0a | ZA3p | ZZ4c | ZV2r | ZY1g | ZY1k | ZV2p | ZY0k | ZV6s | ZB7u | ZB8e | ZB4c | ZB8n | ZB4e | ZA6s | ZV0u | ZY1j | ZV3v | ZY2d | ZV1q | ZV3f | ZB3e | ZB3k | ZB4a | ZB3w | ZA7n | ZB0c | ZA9e | ZA9n | ZB0g | ZA3g | ZC5c | ZC5e | ZC3d | ZC5f | ZB5j | ZB0m | ZB0f | ZA9f | ZA9g | ZA3h | ZZ3r => k_is
   case ZV1x | ZV3j | ZV0d | ZV2f | ZY2h | ZV6b | ZY2t | ZY0z | ZC6g | ZB0w | ZB3n | ZV5r | ZY0v | ZV5a | ZV5e | ZV0j | ZG5q | ZB3z | ZB3x | ZB4d | ZB3y | ZA6w | ZD9t | ZD4e | ZD6e | ZD5p | ZC0e | ZY6r => k_is
   case ZV6g => kit_is
   case ZZ2d | ZZ3w | ZZ3h | ZZ8r | Zcty | Zccl | Zcex | Zsub3 | Zxga3 | Zxgh3 | Zxca3 | Zxob3 | Zxbe3 | Zxcl3 => k_is
   case ZZ7y | ZZ9b | ZZ8y | Zhv3 => kit_is
   case ZlT | ZlN => k_is
   case ZalN => simp
   case ZniT | ZlT1 | ZsaT | Znsg3 | ZY8d | ZZ4g | ZZ3q => k_is
   case ZfcT => rfl
   case ZkTR => kit_is
   case Zq1 | Zq2 => k_exc
   case Za_S | ZlS | ZZ2y | ZY3c | ZV0w | ZV0g | ZV8y | ZV3d | ZV1e | ZV0f | ZV6n | ZC4h | ZB3v | ZV7a | ZV3t | ZV2t | ZV5y | ZV9f | ZG4z | ZB3m | ZB4b | ZB3s | ZB3q | ZA5x | ZD8a | ZD8p | ZG1p | ZG0v | ZC0g => k_is
   case ZV0e => kit_is

